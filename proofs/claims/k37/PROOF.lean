import PyProof.Rows.All
import Wide.All
import OpenK.AllK
import Wide.FinOn
import Lean
import PyProof.EqAt
import PyProof.EqKinds
import PyProof.TupleCall
import PyProof.CollectIter
import PyProof.JoinWalk
import PyProof.StrOps
import PyProof.ListOps
import PyProof.StrLawsJoin
import KE.KRevIter
import PyProof.StrLawsFirst
import PyProof.Rows.StrNews2
import PyProof.StrLawsTight
import PyProof.StrLawsChain
import KE.KIntText
import KE.IntTextLaws
import PyProof.ListStr
import KE.KDictLaws
import KE.KDictList
import PyProof.Rows.SetFrom
import PyProof.FitsReplace
import KE.KEqDict
import PyProof.Rows.SumAny
import PyProof.Rows.CallKwBuiltin
import PyProof.EnumMake
import PyProof.TupleIter
import PyProof.Rows.TupIter
import PyProof.FactsAll.range_2
import PyProof.AutoSeq1
import PyProof.Rows.Range3
import PyProof.ZipIter
import PySem.Challenge.RW_quiltlaw_k37_whole_counts_turned
namespace PySem.W.Fast
def tw11682986234850215332:=Nat
def tw370975378899935220:=Nat
def tw14634782375921491758:=Nat
def tw8934473242236812520:=Nat
def tw1631639532198284521:=Nat
def tw2144089198110394097:=Nat
def tw17382674468746429778:=Nat
def tw3795812343019215731:=Nat
def tw4444252701360063945:=Nat
def tw4007906337126766608:=Nat
def tw10978365491984672836:=Nat
def tw8248576669844611621:=Nat
def tw9363148834433256169:=Nat
def tw14894866074026632323:=Nat
def tw1688315726266492652:=Nat
def tw17513117497059945852:=Nat
def tw2131302103209802134:=Nat
def tw10940731456706832809:=Nat
def tw575833020556096943:=Nat
def tw4723530780592502720:=Nat
def tw6110816054107737076:=Nat
def tw13653660115623020985:=Nat
def tw11017400237358584303:=Nat
def tw2375533287349005758:=Nat
def tw4499836867309334351:=Nat
def tw5733050228099177887:=Nat
def tw13241237123885324941:=Nat
def tw11346781815417596782:=Nat
def tw9753101895963060422:=Nat
def tw994947565789350790:=Nat
def tw2683056073514393343:=Nat
def tw214230009846557249:=Nat
def tw14851946757935900589:=Nat
def tw11702349575424462898:=Nat
def tw13295194727559302339:=Nat
def tw5790980514861860950:=Nat
def tw441900565450234142:=Nat
def tw11787337544977815145:=Nat
def tw1103704120086565951:=Nat
def tw9738279204794761383:=Nat
def tw17386834420578134978:=Nat
def tw11274008919161150545:=Nat
def tw10404299883734124426:=Nat
def tw13588668899448762345:=Nat
def tw8100571949784303851:=Nat
def tw15601000671642323645:=Nat
def tw857093741709386104:=Nat
def tw17962840693002402482:=Nat
def tw14095242954713909381:=Nat
def tw16816080692788302874:=Nat
def tw10744067778381481335:=Nat
def tw14877132078181014105:=Nat
def tw7137057087044207743:=Nat
def tw13326763587222672373:=Nat
def tw3677698400293547568:=Nat
def tw16718058544793753026:=Nat
def tw6227797830967381315:=Nat
def tw13209609231032125616:=Nat
def tw732643659135521538:=Nat
def tw11782829865741084137:=Nat
def tw16906033984013818627:=Nat
def tw1175400040377262867:=Nat
def tw16248112061601980456:=Nat
def tw13191760138875789096:=Nat
def tw5585066112248421222:=Nat
def tw215479755496037958:=Nat
def tw12049012208589104185:=Nat
def tw8468968302658418518:=Nat
def tw1720107855452332602:=Nat
def tw9292696619765529082:=Nat
def tw5832658365374544640:=Nat
def tw14893648149665738323:=Nat
def tw14931097324409226417:=Nat
def tw8617960374298538315:=Nat
def tw1733795642912610943:=Nat
def tw4599425124087365937:=Nat
def tw11029911167097728975:=Nat
def tw10534824617020761777:=Nat
def tw17659501945360006743:=Nat
def tw1823164291495653439:=Nat
def tw4109352224132689149:=Nat
def tw10703199953760129908:=Nat
def tw7703341774058159869:=Nat
def tw4140615998988245793:=Nat
def tw13946149671511665591:=Nat
def tw11022533999384247754:=Nat
def tw14721693120587043666:=Nat
def tw2770392764322813492:=Nat
def tw13974374431608306415:=Nat
def tw7704085181676120526:=Nat
def tw15131444317972022482:=Nat
def tw13036127778968073817:=Nat
def tw4138846281679964569:=Nat
def tw12131185578056058517:=Nat
def tw13190193515571289203:=Nat
def tw16168715617024179031:=Nat
def tw2172817250464823061:=Nat
def tw18410865547602880880:=Nat
def tw12509461623772219101:=Nat
def tw2762230405915891867:=Nat
def tw17495893048770717150:=Nat
def tw11212667207072345396:=Nat
def tw16032419306680212290:=Nat
def tw2668517764197247184:=Nat
def tw12249992836639336699:=Nat
def tw13275900211029166985:=Nat
def tw6818057939092710289:=Nat
def tw7340252985314398333:=Nat
def tw10879556008861226505:=Nat
def tw6600424273529301698:=Nat
def tw6304404199417677815:=Nat
def tw3734528109995069556:=Nat
def tw684491460691194603:=Nat
def tw2396825196785455934:=Nat
def tw4411482615195411267:=Nat
def tw13187410646253333207:=Nat
def tw4214635465833363008:=Nat
def tw13768516730539951169:=Nat
def tw964473588343797802:=Nat
def tw8102447533669173285:=Nat
def tw18172494991350386886:=Nat
def tw4520978165117331772:=Nat
def tw7527940005044398836:=Nat
def tw14515743513794380057:=Nat
def tw11699989148889177723:=Nat
def tw9529337906225828433:=Nat
def tw1765087277053727945:=Nat
def tw194801042071639953:=Nat
def tw17919645126497786485:=Nat
def tw6561540191064947005:=Nat
def tw2454176342715304350:=Nat
def tw11670036695321082597:=Nat
def tw5213932466044285426:=Nat
def tw10980198588891144815:=Nat
def tw10454550601662963619:=Nat
def tw17183934239772267417:=Nat
def tw12863046009772972131:=Nat
def tw3073478816029307193:=Nat
def tw10836818631638055683:=Nat
def tw10904485708810033663:=Nat
def tw11135693140011517930:=Nat
def tw12191602575134253082:=Nat
def tw13080672339008055990:=Nat
def tw5904823781663238339:=Nat
def tw3223379912934696117:=Nat
def tw14193856287704125242:=Nat
def tw16593830295938427036:=Nat
def tw6117725275877671177:=Nat
def tw12783648469565714725:=Nat
def tw1146242470320662781:=Nat
def tw11098376746384193126:=Nat
def tw15035326417397326707:=Nat
def tw15395042775123453793:=Nat
def tw9153050555663953996:=Nat
def tw6049793737601501094:=Nat
def tw17403246729236626881:=Nat
def tw17339388254669558390:=Nat
def tw11756953715362097783:=Nat
def tw11119408310521083808:=Nat
def tw12052598712526144174:=Nat
def tw8027576247794549284:=Nat
def tw11750140505915600980:=Nat
def tw2423895706973571235:=Nat
def tw7290778333547650150:=Nat
def tw12035247064150810870:=Nat
def tw12371048874175391564:=Nat
def tw5564325462121254411:=Nat
def tw11913477256986278106:=Nat
def tw14272684911091572796:=Nat
def tw13791524408792332527:=Nat
def tw3279163229140280283:=Nat
def tw9140653747858629151:=Nat
def tw1152513854432962180:=Nat
def tw16922847663210705396:=Nat
def tw9964690907745343147:=Nat
def tw11551623377191662772:=Nat
def tw11193599406314736357:=Nat
def tw106635685145266743:=Nat
def tw12364284831054471198:=Nat
def tw18112627986209293446:=Nat
def tw14912827920609595527:=Nat
def tw15168984978678136055:=Nat
def tw7252713516718296083:=Nat
def tw13159081147124827647:=Nat
def tw4886923643144850931:=Nat
def tw13268604297167478492:=Nat
def tw15100787508257118970:=Nat
def tw9029469797868293102:=Nat
def tw9480742942593962797:=Nat
def tw17199775296033309447:=Nat
def tw9838299960652794293:=Nat
def tw3194080272617893219:=Nat
def tw5449355354177492373:=Nat
def tw13050574439620642117:=Nat
def tw9824640022845127173:=Nat
def tw13083543426488427827:=Nat
def tw9392729360260045026:=Nat
def tw6701040761380643317:=Nat
def tw2971887883867497460:=Nat
def tw8048945285067393239:=Nat
def tw8756420828927120527:=Nat
def tw6193283582289947578:=Nat
def tw14594740619057086329:=Nat
def tw10610043306406477293:=Nat
def tw14611171660862767476:=Nat
def tw13811927385206018936:=Nat
def tw18166673269788061659:=Nat
def tw429211898784859650:=Nat
def tw8347533093665314312:=Nat
def tw6732339906050171160:=Nat
def tw17135556762481676776:=Nat
def tw11132562471796858421:=Nat
def tw12699153312555095182:=Nat
def tw1254275726945605082:=Nat
def tw15829228565977927378:=Nat
def tw1611747922583148538:=Nat
def tw1087017601844169207:=Nat
def tw15976842785188851564:=Nat
def tw3197143880241187036:=Nat
def tw11379940924898048162:=Nat
def tw8028649515398574933:=Nat
def tw3431502927584972842:=Nat
def tw3267972724948913640:=Nat
def tw502778655634414623:=Nat
def tw9621408406763518304:=Nat
def tw11753476094455746067:=Nat
def tw16111135050837920601:=Nat
def tw18004109339360064181:=Nat
def tw18352908026095076997:=Nat
def tw13393129870110126532:=Nat
def tw2353987725770507249:=Nat
def tw10256177988185266672:=Nat
def tw14308442454568266534:=Nat
def tw11985901299741312573:=Nat
def tw5017372954093660625:=Nat
def tw13941685407387236379:=Nat
def tw3729630493073975182:=Nat
def tw18180423834911406509:=Nat
def tw3675111028278572977:=Nat
def tw15644149128041438671:=Nat
def tw14673633267994049049:=Nat
def tw15711631905754327007:=Nat
def tw11685096483977553244:=Nat
def tw13091870295803314382:=Nat
def tw12101625650727560397:=Nat
def tw1637582871516497683:=Nat
def tw2432386698209864452:=Nat
def tw9848636354652758866:=Nat
def tw10397095151155031807:=Nat
def tw2064697190766529947:=Nat
def tw980021965208609308:=Nat
def tw4969935319837668735:=Nat
def tw7138154829490435695:=Nat
def tw2422686087077380712:=Nat
def tw6962988963526398557:=Nat
def tw13911879188011046750:=Nat
def tw18060797040519721270:=Nat
def tw12624318613436105872:=Nat
def tw6869132285197118785:=Nat
def tw4271684011749758471:=Nat
def tw12811983876933374199:=Nat
def tw17764194585134270413:=Nat
def tw14536731519806135621:=Nat
def tw667918522294179528:=Nat
def tw7593596577958260799:=Nat
def tw3331933762944243157:=Nat
def tw10243069057272765200:=Nat
def tw12205413240744126888:=Nat
def tw652142554105453709:=Nat
def tw13697131365456415780:=Nat
def tw17355169771290967126:=Nat
def tw9351043533118117581:=Nat
def tw3497513928881373434:=Nat
def tw7804488353355868139:=Nat
def tw15285096900152243730:=Nat
def tw7411420771831472348:=Nat
def tw7687571733433390163:=Nat
def tw709807195420227153:=Nat
def tw2488347794527036145:=Nat
def tw6797724994705415512:=Nat
def tw14073534556721539385:=Nat
def tw14514597372467610978:=Nat
def tw3954119423609609767:=Nat
def tw11251269419888557057:=Nat
def tw15856590130044834391:=Nat
def tw16201862490225408306:=Nat
def tw11219600749810778314:=Nat
def tw7772220006531152617:=Nat
def tw15166051407069416831:=Nat
def tw2247506753608696026:=Nat
def tw3727234056753352801:=Nat
def tw13779337082480835441:=Nat
def tw3261563154333518760:=Nat
def tw1712979694346883182:=Nat
def tw13612433647902980264:=Nat
def tw17762287045149145231:=Nat
def tw15964283199309815267:=Nat
def tw13582587372712053471:=Nat
def tw14598742863971265484:=Nat
def tw17063570870160219491:=Nat
def tw9591290704494289835:=Nat
def tw7881793210051342894:=Nat
def tw8703359858562281870:=Nat
def tw4210666184321755901:=Nat
def tw4241033213889648242:=Nat
def tw1160888095815991540:=Nat
def tw15835404785761955365:=Nat
def tw6341039398169332479:=Nat
def tw11255139896809335567:=Nat
def tw1515229450026311035:=Nat
def tw2434522592807288829:=Nat
def tw2266305405887215492:=Nat
def tw6504077570481010093:=Nat
def tw8283155312763534662:=Nat
def tw11586425592182981899:=Nat
def tw8853985651741454989:=Nat
def tw6093207924612371610:=Nat
def tw7041697596573747874:=Nat
def tw17093313250007430886:=Nat
def tw14962003674841210292:=Nat
def tw11354509488539102044:=Nat
def tw6311592786398076839:=Nat
def tw35907833614315472:=Nat
def tw17541619331687954104:=Nat
def tw1520568177010981718:=Nat
def tw1180150650455028994:=Nat
def tw14123596247466889730:=Nat
def tw3304558547512906340:=Nat
def tw5106310117776560882:=Nat
def tw14641331528876280319:=Nat
def tw12760092331984082794:=Nat
def tw1521907986973176131:=Nat
def tw16680469203837618693:=Nat
def tw17167592854424508173:=Nat
def tw6339848535322972894:=Nat
def tw4073259712123427243:=Nat
def tw12621013753351607864:=Nat
def tw8579277127560430918:=Nat
def tw11032763867178679778:=Nat
def tw8514729107927237572:=Nat
def tw17569167247674124378:=Nat
def tw1646594900256647239:=Nat
def tw12333510816146910276:=Nat
def tw10335995382212073267:=Nat
def tw13912635393182492360:=Nat
def tw5172862859844328817:=Nat
def tw211067868314165642:=Nat
def tw3760784302329238891:=Nat
def tw12130546285905761817:=Nat
def tw4149596399025172914:=Nat
def tw14168639189306305754:=Nat
def tw5205987651612074274:=Nat
def tw8572137447515350162:=Nat
def tw10910768881293247214:=Nat
def tw12094740568369211950:=Nat
def tw17835288040160088479:=Nat
def tw2852905015321359471:=Nat
def tw16571724758697279201:=Nat
def tw9288962264232886901:=Nat
def tw11428868858880455672:=Nat
def tw6402782632001092748:=Nat
def tw6510531068562813300:=Nat
def tw10627048521270622236:=Nat
def tw13736963692823139362:=Nat
def tw642431419343536088:=Nat
def tw5196783245855023591:=Nat
def tw17308893511619679016:=Nat
def tw2816553848871963149:=Nat
def tw17429605486855733794:=Nat
def tw13009041618076199472:=Nat
def tw9619163584086976238:=Nat
def tw13218594531154363876:=Nat
def tw4876908175732825177:=Nat
def tw10060781826966460327:=Nat
def tw17663067600394122669:=Nat
def tw4013292902479531988:=Nat
def tw15032008033310501465:=Nat
def tw472952801769541676:=Nat
def tw10058898157873565705:=Nat
def tw8269869721277792828:=Nat
def tw672260136686664975:=Nat
def tw14352482762760809560:=Nat
def tw13470700661904161088:=Nat
def tw3642684799735643149:=Nat
def tw4510076883570558511:=Nat
def tw15160558149374338085:=Nat
def tw3871593479702668502:=Nat
def tw14047147868917230252:=Nat
def tw11198819031431898164:=Nat
def tw3891196413804700647:=Nat
def tw5890172432349805727:=Nat
def tw11313637085238498720:=Nat
def tw16800964364962710713:=Nat
def tw8275184293708003589:=Nat
def tw16166565616404683908:=Nat
def tw4774249586128601671:=Nat
def tw15830559011205615421:=Nat
def tw8994253564387184337:=Nat
def tw5352778219940009818:=Nat
def tw2856435830772526424:=Nat
def tw12612678520954258562:=Nat
def tw11616638642743275811:=Nat
def tw18287815476922357628:=Nat
def tw6917547983337103110:=Nat
def tw1700752728530935728:=Nat
def tw2188975487528076498:=Nat
def tw1351747557180297277:=Nat
def tw17763105105025033183:=Nat
def tw5505551782599331400:=Nat
def tw13100651399584967467:=Nat
def tw4865377536690566205:=Nat
def tw6590726776396217010:=Nat
def tw6962011556830057100:=Nat
def tw6211629747330759646:=Nat
def tw4640515426667015223:=Nat
def tw3158639187034557898:=Nat
def tw11310820200052195881:=Nat
def tw17236933332385560025:=Nat
def tw4673005614003196075:=Nat
def tw6107893559681095779:=Nat
def tw17930109821106732879:=Nat
def tw14641532178356532931:=Nat
def tw227870592301750088:=Nat
def tw5317015485570710161:=Nat
def tw9549484106870062102:=Nat
def tw9993559845574208839:=Nat
def tw15421131037234559492:=Nat
def tw3684531860308043763:=Nat
def tw11695668171901249911:=Nat
def tw11883121391723284237:=Nat
def tw8431913144962185092:=Nat
def tw14399934175927150726:=Nat
def tw5344617323040111605:=Nat
def tw16933704554259989346:=Nat
def tw13772424920854012836:=Nat
def tw2378714776175064689:=Nat
def tw3432438495882135260:=Nat
def tw18095760941754166234:=Nat
def tw9234985765725773318:=Nat
def tw7289770991981003088:=Nat
def tw17234471272552544042:=Nat
def tw9588381322590707844:=Nat
def tw12058790423926631160:=Nat
def tw3093091800757339053:=Nat
def tw3920269059629954396:=Nat
def tw2900571962246462304:=Nat
def tw6786834933028944131:=Nat
def tw2767007167729919151:=Nat
def tw6524043603251821521:=Nat
def tw9940786365658654120:=Nat
def tw5453648686263592103:=Nat
def tw5742564187618132943:=Nat
def tw15236820478400729126:=Nat
def tw11721035985919210586:=Nat
def tw4753978874516301435:=Nat
def tw9245232073874535917:=Nat
def tw16323440499051854301:=Nat
def tw9201240104124647681:=Nat
def tw1504161803016729964:=Nat
def tw11415250829738707231:=Nat
def tw5717462008358511506:=Nat
def tw3878083097497746695:=Nat
def tw9647070060937094494:=Nat
def tw15932113929340538570:=Nat
def tw8531204709092327433:=Nat
def tw8816861902322644753:=Nat
def tw9817766227041389672:=Nat
def tw16939646384537006260:=Nat
def tw4861905363137774353:=Nat
def tw4003581844776828654:=Nat
def tw11203265447566809607:=Nat
def tw11402818069439322362:=Nat
def tw9809785713864154260:=Nat
def tw5880303611496624330:=Nat
def tw15264688431786410571:=Nat
def tw10281988296302067584:=Nat
def tw2296204582371280123:=Nat
def tw10943818430955358174:=Nat
def tw11249465074288894984:=Nat
def tw482129865663635507:=Nat
def tw17369905721942246584:=Nat
def tw6830409606155736398:=Nat
def tw9700673816141329564:=Nat
def tw8639344560326708489:=Nat
def tw6766895439729807419:=Nat
def tw11873048228005473915:=Nat
def tw1733422579890912729:=Nat
def tw4862791129069668296:=Nat
def tw12198806230713860381:=Nat
def tw12512462313597889266:=Nat
def tw3782329783650395298:=Nat
def tw4713866566797661986:=Nat
def tw8054979925411352042:=Nat
def tw12834773578283094219:=Nat
def tw2264262533918945092:=Nat
def tw11185982448471318800:=Nat
def tw13803379860212648068:=Nat
def tw15135474300618677934:=Nat
def tw17510231526349086743:=Nat
def tw12460106133450619172:=Nat
def tw5587513370247492493:=Nat
def tw8482937572837458866:=Nat
def tw1089289955999257243:=Nat
def tw5432733235740381476:=Nat
def tw16074553064681172890:=Nat
def tw12362047163585368847:=Nat
def tw13840102475786403088:=Nat
def tw8428884328821793619:=Nat
def tw12267345537128716029:=Nat
def tw5632953142794059920:=Nat
def tw7655706391306544620:=Nat
def tw10658547072375830709:=Nat
def tw3532200119818080911:=Nat
def tw7403952704452462142:=Nat
def tw16747100206992531869:=Nat
def tw9602078169415075784:=Nat
def tw12112113138406833663:=Nat
def tw6067988555667183280:=Nat
def tw13418066759268323674:=Nat
def tw16890334597569778645:=Nat
def tw9174249915584293526:=Nat
def tw9969478312826731912:=Nat
def tw13187321870840081998:=Nat
def tw1961496382966377037:=Nat
def tw12875457257450183192:=Nat
def tw8408989900589970576:=Nat
def tw728557068098528364:=Nat
def tw6795505670640962510:=Nat
def tw6284659959523232599:=Nat
def tw11800051829093187038:=Nat
def tw1375876356907485824:=Nat
def tw10401136744735645789:=Nat
def tw4209492431655463970:=Nat
def tw18031475490183681217:=Nat
def tw16612866820119912798:=Nat
def tw2018664756990063194:=Nat
def tw1728949250328704161:=Nat
def tw13913961362779580218:=Nat
def tw8299038532981241903:=Nat
def tw2871402367994073491:=Nat
def tw5118343219821513407:=Nat
def tw12331688352971921802:=Nat
def tw4384812445119793245:=Nat
def tw7771171170477000480:=Nat
def tw10906347127538701332:=Nat
def tw8314168919829364829:=Nat
def tw2552598521012782302:=Nat
def tw5511456772372805881:=Nat
def tw16128787159806813532:=Nat
def tw9274805884914458516:=Nat
def tw12384907435527432876:=Nat
def tw7644092101698541303:=Nat
def tw18332389030419291248:=Nat
def tw16968250497445244397:=Nat
def tw10683731169480368623:=Nat
def tw3607710031555685561:=Nat
def tw201135137758631201:=Nat
def tw13817431567725253257:=Nat
def tw5779822684700842891:=Nat
def tw6853698473333154779:=Nat
def tw18177387564683800735:=Nat
def tw10129964232843885420:=Nat
def tw18283429696849297618:=Nat
def tw11529621268244831454:=Nat
def tw16497327204411216045:=Nat
def tw17654845728658794986:=Nat
def tw4642397155874193167:=Nat
def tw1419487281816823639:=Nat
def tw14858385563392415073:=Nat
def tw10216789033808303913:=Nat
def tw2818050747392620136:=Nat
def tw5646912625221964911:=Nat
def tw9117673482103536794:=Nat
end PySem.W.Fast
theorem zz0(h:1=1:=by rfl):1=1:=h
theorem zz1(h:1=1:=by decide):1=1:=h
theorem zz2(h:1=1:=by decide +kernel):1=1:=h
theorem zz3(h:1=1:=by first | exact .inl rfl | exact .inr rfl | assumption):1=1:=h
theorem zz4(h:1=1:=by intro _;rfl):1=1:=h
theorem zz5(h:1=1:=by first | exact Or.inl rfl | exact Or.inr (Or.inl rfl) | exact Or.inr (Or.inr rfl)):1=1:=h
set_option linter.all false
set_option Elab.async false
set_option maxRecDepth 100000
noncomputable abbrev HV:=PySem.Value->PySem.Shared->Prop
noncomputable abbrev HW:=PySem.W.Frag
noncomputable abbrev HX:=List (PySem.Addr×PySem.Obj)
noncomputable abbrev HY:=List Nat
noncomputable abbrev HZ:=PySem.Shared
noncomputable abbrev Ia:=List PySem.Value
noncomputable abbrev Ib:=List PySem.Addr
noncomputable abbrev Ic:=PySem.Str->Option PySem.Value
noncomputable abbrev Ie:=PySem.FuncData
noncomputable abbrev Ig:=PySem.Program
noncomputable abbrev Ih:=List PySem.Str
noncomputable abbrev Ii:=PySem.Around
noncomputable abbrev Ij:=PySem.World
noncomputable abbrev Ik:=Option PySem.Addr
noncomputable abbrev Il:=List PySem.Expr
local macro_rules|`(term|⋯)=>`(by omega)
local macro_rules|`(term|nofun)=>`(by decide)
abbrev G4:=@List.getElem?_eq_getElem
abbrev G5:=@List.getElem?_eq_some_iff
abbrev G6:=@PySem.Heap.get?_push_of_some
abbrev G7:=@List.length_map
abbrev G8:=@List.mem_singleton
abbrev G9:=@List.getElem?_map
abbrev G_:=@List.mem_of_getElem?
abbrev G':=@PySem.Heap.get?_update_other
abbrev Ha:=@PySem.Heap.get?_push_size
abbrev Hb:=@List.size_toArray
abbrev Hc:=@List.getElem_mem
abbrev Hd:=@PySem.Heap.get?_update_self
abbrev He:=@List.length_cons
abbrev Hf:=@List.map_append
abbrev Hg:=@List.mem_append
abbrev Hh:=@List.map_map
abbrev Hi:=@List.mem_cons
abbrev Hj:=@List.mem_cons_of_mem
abbrev Hk:=@List.length_reverse
abbrev Hl:=@Nat.lt_of_lt_of_le
abbrev Hm:=@Nat.ne_of_lt
abbrev Hn:=@List.getElem?_append_right
abbrev Ho:=@List.getElem?_append_left
abbrev Hq:=@List.length_append
abbrev Hr:=@Nat.le_refl
abbrev Hs:=@Nat.zero_le
abbrev Ht:=@Bool.false_ne_true
abbrev Hu:=@PySem.Heap.lt_size
abbrev Hv:=@Option.map_eq_some_iff
abbrev Hw:=@List.getElem?_cons_succ
abbrev Hx:=@List.map_cons
abbrev Hy:=@Nat.le_trans
abbrev Hz:=@Nat.lt_irrefl
abbrev HA:=@Nat.lt_succ_self
abbrev HB:=@List.append_nil
abbrev HC:=@List.append_assoc
abbrev HD:=@List.getElem?_set_self
abbrev HE:=@List.take_length
abbrev HF:=@List.length_take
abbrev HG:=@List.length_drop
abbrev HH:=@Nat.lt_of_le_of_lt
abbrev HI:=@List.length_eq_zero_iff
abbrev HJ:=@List.mem_map
abbrev HK:=@List.all_eq_true
abbrev HL:=@Nat.add_le_add_left
abbrev HM:=@List.getElem_toArray
abbrev HN:=@List.nil_append
abbrev HP:=@Int.emod_nonneg
abbrev HQ:=@Int.emod_lt_of_pos
abbrev HR:=@Int.toNat_of_nonneg
abbrev HS:=@Nat.min_eq_left
abbrev HU:=@List.drop_zero
namespace L2
open PySem PySem.Spec PyProof.Rows
noncomputable abbrev cE:=Sum Int Str
noncomputable def pT:cE->Value->Bool
 | .inl k,v=>Value.isInt k v
 | .inr x,v=>Value.isStrOf x v
noncomputable def D1(w:Ij):cE->Int
 | .inl k=>hashInt k
 | .inr x=>hashStr w x
theorem bY:∀{k:cE} {v:Value},pT k v=true->(∃i t,k=Sum.inl i/\v=Value.int i t)\/(∃x t,k=Sum.inr x/\v=Value.str x t)
 | .inl i,v,h=>by
  obtain⟨t,e⟩:=Value.isInt_shape (k:=i) (v:=v) h;exact .inl ⟨i,t,rfl,e⟩
 | .inr x,v,h=>by
  obtain⟨t,e⟩:=Value.isStrOf_shape (x:=x) (v:=v) h;exact .inr ⟨x,t,rfl,e⟩
theorem xM(i:Int)(t:Tok):pT (.inl i) (.int i t)=true:=by simp[pT,Value.isInt]
theorem w6(x:Str)(t:Tok):pT (.inr x) (.str x t)=true:=by simp[pT,Value.isStrOf]
theorem Cw(a b:Int):decide ((Sum.inl a:cE)=Sum.inl b)=(a==b):=by
 by_cases e:a=b
 ·subst e;simp
 ·have h:¬ (Sum.inl a:cE)=Sum.inl b:=λq=>e (Sum.inl.inj q)
  rw[decide_eq_false h];exact(beq_eq_false_iff_ne.mpr e).symm
theorem Cs(a b:Str):decide ((Sum.inr a:cE)=Sum.inr b)=decide (a=b):=by
 by_cases e:a=b
 ·subst e;simp
 ·have h:¬ (Sum.inr a:cE)=Sum.inr b:=λq=>e (Sum.inr.inj q)
  rw[decide_eq_false h,decide_eq_false e]
theorem Cd(a:Int)(b:Str):decide ((Sum.inl a:cE)=Sum.inr b)=false:=decide_eq_false (λq=>nomatch q)
theorem Cu(a:Str)(b:Int):decide ((Sum.inr a:cE)=Sum.inl b)=false:=decide_eq_false (λq=>nomatch q)
noncomputable def b9(prog:Ig)(w:Ij):PySem.KeyKind prog w cE where
 is:=pT
 hash:=D1 w
 inj:=λv a b ha hb=>by
  rcases bY ha with⟨i,t,rfl,rfl⟩ | ⟨x,t,rfl,rfl⟩
  ·rcases bY hb with⟨j,u,rfl,e⟩ | ⟨y,u,rfl,e⟩
   ·injection e with e1 _;rw[e1]
   ·exact nomatch e
  ·rcases bY hb with⟨j,u,rfl,e⟩ | ⟨y,u,rfl,e⟩
   ·exact nomatch e
   ·injection e with e1 _;rw[e1]
 byValue:=λk v h=>by
  rcases bY h with⟨i,t,rfl,rfl⟩ | ⟨x,t,rfl,rfl⟩<;>rfl
 pyHash:=λhv h=>by
  rcases bY hv with⟨i,t,rfl,rfl⟩ | ⟨x,t,rfl,rfl⟩
  ·exact wpAny_pyHash_int h
  ·exact wpAny_pyHash_str h
 eqBool:=λhu hv h=>by
  rcases bY hu with⟨i,t,rfl,rfl⟩ | ⟨x,t,rfl,rfl⟩
  ·rcases bY hv with⟨j,u,rfl,rfl⟩ | ⟨y,u,rfl,rfl⟩
   ·rw[Cw]at h;exact wpAny_eqBool_int h
   ·rw[Cd]at h;exact SeqAt.EqAt.int_str i t y u _ _ _ _ h
  ·rcases bY hv with⟨j,u,rfl,rfl⟩ | ⟨y,u,rfl,rfl⟩
   ·rw[Cu]at h;exact SeqAt.EqAt.str_int x t j u _ _ _ _ h
   ·rw[Cs]at h;exact wpAny_eqBool_str h
 «strs»:=λk x t v h=>by
  rcases bY h with⟨i,u,rfl,e⟩ | ⟨y,u,rfl,e⟩
  ·exact nomatch e
  ·injection e with e1 _
   subst e1;cases v<;>rfl
theorem ua(prog:Ig)(w:Ij)(i:Int)(t:Tok):(b9 prog w).is (.inl i) (.int i t)=true:=xM i t
theorem sQ(prog:Ig)(w:Ij)(x:Str)(t:Tok):(b9 prog w).is (.inr x) (.str x t)=true:=w6 x t
inductive V where
 |non | bl (b:Bool) | int (i:Int) | str (x:Str) | byt (b:Array UInt8) | flt (b:UInt64) | ref (a:Addr) | ty (n:String)
 deriving DecidableEq
noncomputable def ba:V->Value->Prop
 | .non,u=>u=Value.none
 | .bl b,u=>u=Value.bool b
 | .int i,u=>∃t,u=Value.int i t
 | .str x,u=>∃t,u=Value.str x t
 | .byt b,u=>∃t,u=Value.bytes b t
 | .flt b,u=>∃t,u=Value.float b t
 | .ref a,u=>u=Value.ref a
 | .ty n,u=>u=Value.type n
noncomputable abbrev aT:List V->List Value->Prop:=Paired ba
theorem aT.length{xs:List V}{us:Ia}(r:aT xs us):xs.length=us.length:=Paired.length r
theorem aT.get:∀{xs:List V} {us:Ia} {i:Nat} {x:V},aT xs us->xs[i]?=some x->∃u,us[i]?=some u/\ba x u
 |_,_,_,_,.nil,e=>by simp at e
 |_,_,0,_,.cons r _,e=>by simp at e;subst e;exact⟨_,rfl,r⟩
 |_,_,i+1,x,.cons _ t,e=>by
  obtain⟨u,h1,h2⟩:=aT.get (i:=i) (x:=x) t (by simpa using e);exact⟨u,by simpa using h1,h2⟩
theorem aT.set{x:V}{u:Value}(r:ba x u):∀{xs:List V} {us:Ia} (i:Nat),aT xs us->aT (xs.set i x) (us.set i u)
 |_,_,_,.nil=>.nil
 |_,_,0,.cons _ t=>.cons r t
 |_,_,i+1,.cons q t=>.cons q (aT.set r i t)
theorem aT.append:∀{xs ys:List V} {us ws:Ia},aT xs us->aT ys ws->aT (xs++ys) (us++ws)
 |_,_,_,_,.nil,s=>s
 |_,_,_,_,.cons r t,s=>.cons r (aT.append t s)
theorem aT.take:∀{xs:List V} {us:Ia} (n:Nat),aT xs us->aT (xs.take n) (us.take n)
 |_,_,0,_=>.nil
 |_,_,_+1,.nil=>.nil
 |_,_,n+1,.cons r t=>.cons r (aT.take n t)
theorem aT.drop:∀{xs:List V} {us:Ia} (n:Nat),aT xs us->aT (xs.drop n) (us.drop n)
 |_,_,0,r=>r
 |_,_,_+1,.nil=>.nil
 |_,_,n+1,.cons _ t=>aT.drop n t
noncomputable def jo:Option V->Option Value->Prop
 |some v,some u=>ba v u
 |none,none=>True
 |_,_=>False
noncomputable def KV{κ:Type}:List (κ×V)->List (κ×Value)->Prop:=Paired fun(p:κ×V) (q:κ×Value)=>p.1=q.1/\ba p.2 q.2
noncomputable def kV:cE->V
 | .inl i=>.int i
 | .inr x=>.str x
inductive HO where
  |lst (xs:List V)
  |tup (xs:List V)
  |dK (kvs:List (cE×V)) | dT (kvs:List (List cE×V))
  |set(S:Int->Bool) (n:Nat)
  |ins (C dx:Addr) (fs:List (Str×V))
  |own (x:Addr)
  |xd (fs:List (Str×V))
  |met (f x:Addr)
  |rng (lo hi:Int)
  |frz (o:Obj) (u:HO)
  |tbl (ps:Array Value)
  |ext (φ:Heap->Prop)
noncomputable abbrev Hp:=Addr->Option HO
noncomputable def au(H:Hp)(a:Addr)(o:HO):Hp:=λb=>if b=a then some o else H b
theorem ac{H:Hp}{a:Addr}{o:HO}:au H a o a=some o:=by unfold au;rw[if_pos rfl]
theorem ao{H:Hp}{a b:Addr}{o:HO}(h:b≠a):au H a o b=H b:=by unfold au;rw[if_neg h]
theorem kM{H:Hp}{a:Addr}{o u:HO}:au (au H a o) a u=au H a u:=by
 funext b;unfold au;split<;>rfl
theorem Du{H:Hp}{a b:Addr}{o u:HO}(h:H a=some o)(h':H b=some u)(d:o≠u):a≠b:=by
 intro e;subst e;rw[h]at h';exact d (Option.some.inj h')
theorem aA{H:Hp}{a b:Addr}{o:HO}(h:H a=some o)(h':H b=none):a≠b:=by
 intro e;subst e;rw[h]at h';cases h'
section
variable (P:Ig)(w:Ij)
noncomputable def bE(H:Hp)(h:Heap)(a:Addr):HO->Prop
 | .lst xs=>xs.length<=sizeLine/\∃(its:Ia) (n:Nat),aT xs its/\h.get? a=some {cls:=.type "list",data:=.seq its.toArray n}
 | .tup xs=>xs.length<=sizeLine/\∃its:List Value,aT xs its/\IsTup h a its.toArray
 | .dK kvs=>kvs.length<=sizeLine/\(a==sysModules)=false/\∃vs,KV kvs vs/\h.DictOf (b9 P w) a vs
 | .dT kvs=>kvs.length<=sizeLine/\(a==sysModules)=false/\∃xs:List (List cE×Addr×Value),
   Paired (fun(p:List cE×V) (q:List cE×Addr×Value)=>p.1=q.1/\H q.2.1=some (.tup (p.1.map kV))/\ba p.2 q.2.2) kvs xs /\
   ∃o es ep,h.get? a=some o/\o.ExactDict/\o.data=.dict es ep/\es.toList=xs.map (entryOfKey (tupleKind (b9 P w)))/\(xs.map (·.1)).Nodup
 | .set S n=>h.SetOf (intKind P w) a S n
 | .ins C dx fs=>H dx=some (.own a)/\fs.length<=1000/\dx≠a/\h.get? a=some (PySem.W.instObj C dx) /\
   ∃mA,h.Ns1 dx mA/\(∀f,jo (fs.lookup f) (mA f))/\PySem.Within mA (fs.map (·.1))
 | .own _=>∃o,h.get? a=some o
 | .xd fs=>∃mA,h.Ns1 a mA/\∀f,jo (fs.lookup f) (mA f)
 | .rng lo hi=>∃t u v,h.get? a=some {cls:=.type "range",data:=.fields #[.int lo t,.int hi u,.int 1 v]}
 | .frz o u=>h.get? a=some o/\bE H h a u
 | .tbl ps=>h.get? a=some {cls:=.none,data:=.fields ps}
 | .met f x=>h.get? a=some (PySem.W.methodObj (.ref f) (.ref x))
 | .ext φ=>φ h/\(∃o,h.get? a=some o)/\∀h1 h2:Heap,φ h1->(∀o,h1.get? a=some o->h2.get? a=some o)->φ h2
def jZ(H:Hp)(h:Heap):Prop:=∀a o,H a=some o->bE P w H h a o
end
section
variable {P:Ig}{w:Ij}{H H':Hp}{h h':Heap}{a:Addr}{o:HO}
theorem bE.lt(x:bE P w H h a o):a<h.objs.size:=by
 cases o with
 |lst xs=>obtain⟨_,_,_,_,e⟩:=x;exact Hu e
 |tup xs=>obtain⟨_,_,_,p⟩:=x;exact p.lt
 |dK kvs=>obtain⟨_,_,_,_,o,_,_,e,_⟩:=x;exact Hu e
 |dT kvs=>obtain⟨_,_,_,_,o,_,_,e,_⟩:=x;exact Hu e
 |set S n=>obtain⟨o,_,_,_,e,_⟩:=x;exact Hu e
 |ins C dx fs=>obtain⟨_,_,_,e,_⟩:=x;exact Hu e
 |own y=>obtain⟨_,e⟩:=x;exact Hu e
 |xd fs=>obtain⟨_,⟨_,_,_,e,_⟩,_⟩:=x;exact Hu e
 |rng lo hi=>obtain⟨_,_,_,e⟩:=x;exact Hu e
 |frz ob u=>obtain⟨e,_⟩:=x;exact Hu e
 |tbl ps=>exact Hu (show h.get? a=some _ from x)
 |met f y=>exact Hu (show h.get? a=some _ from x)
 |ext φ=>obtain⟨_,⟨_,e⟩,_⟩:=x;exact Hu e
theorem Paired.mapP{α β:Type}{F G:α->β->Prop}:∀{l₁:List α} {l₂:List β},Paired F l₁ l₂->(∀a b,F a b->G a b)->Paired G l₁ l₂
 |_,_,.nil,_=>.nil
 |_,_,.cons r t,f=>.cons (f _ _ r) (Paired.mapP t f)
theorem bE.stay(x:bE P w H h a o)(k:∀b u,(b=a\/H b=some (.own a))->h.get? b=some u->h'.get? b=some u)
  (ho:∀b,H b=some (.own a)->H' b=some (.own a)) (ht:∀b xs,H b=some (.tup xs)->H' b=some (.tup xs)):bE P w H' h' a o:=by
 induction o with
 |lst xs=>obtain⟨z,its,n,r,e⟩:=x;exact⟨z,its,n,r,k _ _ (.inl rfl) e⟩
 |tup xs=>obtain⟨z,its,r,ob,e,c⟩:=x;exact⟨z,its,r,ob,k _ _ (.inl rfl) e,c⟩
 |dK kvs=>obtain⟨z,y,vs,r,ob,es,ep,e,c⟩:=x;exact⟨z,y,vs,r,ob,es,ep,k _ _ (.inl rfl) e,c⟩
 |dT kvs=>
  obtain⟨z,y,xs,r,ob,es,ep,e,c⟩:=x;exact⟨z,y,xs,Paired.mapP r λp q z=>⟨z.1,ht _ _ z.2.1,z.2.2⟩,ob,es,ep,k _ _ (.inl rfl) e,c⟩
 |set S n=>obtain⟨ob,es,ep,t,e,c⟩:=x;exact⟨ob,es,ep,t,k _ _ (.inl rfl) e,c⟩
 |ins C dx fs=>
  obtain⟨d,z,ne,e,mA,⟨od,es,ep,e2,c⟩,r⟩:=x;exact⟨ho _ d,z,ne,k _ _ (.inl rfl) e,mA,⟨od,es,ep,k _ _ (.inr d) e2,c⟩,r⟩
 |own y=>obtain⟨ob,e⟩:=x;exact⟨ob,k _ _ (.inl rfl) e⟩
 |xd fs=>obtain⟨mA,⟨od,es,ep,e,c⟩,r⟩:=x;exact⟨mA,⟨od,es,ep,k _ _ (.inl rfl) e,c⟩,r⟩
 |rng lo hi=>obtain⟨t,u,v,e⟩:=x;exact⟨t,u,v,k _ _ (.inl rfl) e⟩
 |frz ob u ih=>obtain⟨e,q⟩:=x;exact⟨k _ _ (.inl rfl) e,ih q⟩
 |tbl ps=>
  have e:h.get? a=some {cls:=.none,data:=.fields ps}:=x;show h'.get? a=some {cls:=.none,data:=.fields ps};exact k a _ (.inl rfl) e
 |met f y=>
  have e:h.get? a=some (PySem.W.methodObj (.ref f) (.ref y)):=x;show h'.get? a=some (PySem.W.methodObj (.ref f) (.ref y));exact k a _ (.inl rfl) e
 |ext φ=>obtain⟨p,⟨o,e⟩,st⟩:=x;exact⟨st _ _ p λo q=>k _ _ (.inl rfl) q,⟨o,k _ _ (.inl rfl) e⟩,st⟩
theorem jZ.lt(x:jZ P w H h)(e:H a=some o):a<h.objs.size:=(x a o e).lt
theorem jZ.fresh(x:jZ P w H h)(e:h.objs.size<=a):H a=none:=by
 cases q:H a with
 |none=>rfl
 |some u=>exact absurd (Hl (x.lt q) e) (Hz _)
theorem jZ.kept(x:jZ P w H h)(k:∀b u,h.get? b=some u->h'.get? b=some u):jZ P w H h':=λa o e=>
 (x a o e).stay (λb u _ q=>k b u q) (λ_ q=>q) λ_ _ q=>q
theorem jZ.laid(x:jZ P w H h)(k:∀b u,h.get? b=some u->h'.get? b=some u)(hp:h.objs.size<=a)(new:bE P w (au H a o) h' a o):jZ P w (au H a o) h':=λb u e=>by
 have hn:=x.fresh hp
 by_cases hb:b=a
 ·subst hb;rw[ac]at e;cases e;exact new
 ·rw[ao hb]at e
  exact(x b u e).stay (λc v _ q=>k c v q) (λc q=>by rw[ao (aA q hn)];exact q) λc xs q=>by rw[ao (aA q hn)];exact q
end
def Rd(H:Hp)(a:Addr)(u:HO):Prop:=H a=some u\/∃o,H a=some (.frz o u)
theorem Rd.ok{P:Ig}{w:Ij}{H:Hp}{h:Heap}{a:Addr}{u:HO}(r:Rd H a u)(x:jZ P w H h):bE P w H h a u:=by
 rcases r with r | ⟨o,r⟩
 ·exact x a u r
 ·obtain⟨_,q⟩:=x a _ r
  exact q
noncomputable def Dx:Option HO->Prop
 |some (.lst _)=>True
 |some (.dK _)=>True
 |some (.dT _)=>True
 |some (.set _ _)=>True
 |some (.ins _ _ _)=>True
 |some (.ext _)=>True
 |_=>False
section
variable {P:Ig}{w:Ij}{H:Hp}{h h':Heap}{x e:Addr}{o':HO}
theorem jZ.write(ok:jZ P w H h)(mu:Dx (H x))(he:e=x\/H e=some (.own x))(k:∀b u,b≠e->h.get? b=some u->h'.get? b=some u)(heo:∃u,h'.get? e=some u)
  (new:bE P w (au H x o') h' x o'):jZ P w (au H x o') h':=λb u q=>by
 have nown:∀c y,H c=some (.own y)->c≠x:=λc y r z=>by subst z;rw[r]at mu;exact mu
 have ntup:∀c xs,H c=some (.tup xs)->c≠x:=λc xs r z=>by subst z;rw[r]at mu;exact mu
 by_cases hb:b=x
 ·subst hb;rw[ac]at q;cases q;exact new
 ·rw[ao hb]at q
  by_cases hbe:b=e
  ·have q':H b=some (.own x):=by
    rcases he with z | z
    ·exact absurd (hbe.trans z) hb
    ·rw[hbe];exact z
   rw[q]at q';cases q'
   obtain⟨v,hv⟩:=heo;exact⟨v,by rw[hbe];exact hv⟩
  ·refine(ok b u q).stay (λc v hc r=>k c v ?_ r) (λc r=>by rw[ao (nown c b r)];exact r) λc xs r=>by rw[ao (ntup c xs r)];exact r
   rcases hc with rfl | hc
   ·exact hbe
   ·rintro rfl
    rcases he with z | z
    ·exact nown c b hc z
    ·rw[hc]at z;cases z;exact hb rfl
end
structure Un(fs ex:Ib)(H H':Hp)(h h':Heap):Prop where
 keep:∀b o,h.get? b=some o->H b=none->b∉fs->b∉ex->h'.get? b=some o
 slot:∀b o,h.get? b=some o->H b=none->b∈fs->b∉ex->∃sl,h'.get? b=some {o with slots:=sl}
 free:∀b o,h.get? b=some o->H b=none->b∉ex->H' b=none
 there:∀b o,h.get? b=some o->b∉ex->∃o',h'.get? b=some o'
 tups:∀b xs,H b=some (.tup xs)->H' b=some (.tup xs)
 frzs:∀b o u,H b=some (.frz o u)->H' b=some (.frz o u)
 tbls:∀b ps,H b=some (.tbl ps)->∃more,H' b=some (.tbl (ps++more))
section
variable {fs fs' ex ex':Ib}{H H1 H2:Hp}{h h1 h2 h':Heap}{a x e:Addr}{o:HO}
theorem Un.any(u:Un fs ex H H1 h h1){b:Addr}{ob:Obj}(q:h.get? b=some ob)(n:H b=none)(hx:b∉ex):∃sl,h1.get? b=some {ob with slots:=sl}:=by
 by_cases hb:b∈fs
 ·exact u.slot b ob q n hb hx
 ·exact⟨ob.slots,u.keep b ob q n hb hx⟩
theorem Un.kept(k:∀b u,h.get? b=some u->h'.get? b=some u):Un fs ex H H h h':=
 ⟨λb ob q _ _ _=>k b ob q,λb ob q _ _ _=>⟨ob.slots,k b ob q⟩,λ_ _ _ n _=>n,λb ob q _=>⟨ob,k b ob q⟩,λ_ _ q=>q,λ_ _ _ q=>q,λ_ ps q=>⟨#[],by rw[q];simp⟩⟩
theorem Un.refl:Un fs ex H H h h:=Un.kept λ_ _ q=>q
theorem Un.laid(k:∀b u,h.get? b=some u->h'.get? b=some u)(hp:h.objs.size<=a)(hn:H a=none):Un fs ex H (au H a o) h h' where
 keep:=λb u q _ _ _=>k b u q
 slot:=λb u q _ _ _=>⟨u.slots,k b u q⟩
 free:=λb u q n _=>by rw[ao (Hm (Hl (Hu q) hp))];exact n
 there:=λb u q _=>⟨u,k b u q⟩
 tups:=λb xs q=>by rw[ao (aA q hn)];exact q
 frzs:=λb u xs q=>by rw[ao (aA q hn)];exact q
 tbls:=λb ps q=>⟨#[],by rw[ao (aA q hn),q];simp⟩
theorem Un.write(mu:Dx (H x))(he:e=x\/H e=some (.own x))(k:∀b u,b≠e->h.get? b=some u->h'.get? b=some u)(heo:∃u,h'.get? e=some u):Un fs ex H (au H x o) h h':=by
 have hx:∀b,H b=none->b≠x:=λb n z=>by subst z;rw[n]at mu;exact mu
 have hb:∀b,H b=none->b≠e:=λb n z=>by
  subst z;rcases he with r | r
  ·exact hx b n r
  ·rw[n]at r;cases r
 have hm:∀b u,H b=some u->¬ Dx (some u)->b≠x:=λb u q nm z=>by subst z;rw[q]at mu;exact nm mu
 refine⟨λb u q n _ _=>k b u (hb b n) q,λb u q n _ _=>⟨u.slots,k b u (hb b n) q⟩,λb u q n _=>by rw[ao (hx b n)];exact n,λb u q _=>?_,
  λb xs q=>by rw[ao (hm b _ q λz=>z)];exact q,λb u xs q=>by rw[ao (hm b _ q λz=>z)];exact q,λb ps q=>⟨#[],by rw[ao (hm b _ q λz=>z),q];simp⟩⟩
 by_cases hbe:b=e
 ·subst hbe;exact heo
 ·exact⟨u,k b u hbe q⟩
end
noncomputable def DV(h:Heap)(H:Hp):List Addr:=(List.range h.objs.size).filter λa=>(H a).isSome
noncomputable def sf(h:Heap)(H:Hp):Heap:=PySem.W.hideAll h (DV h H)
theorem xz(h:Heap)(H:Hp):(sf h H).objs.size=h.objs.size:=PySem.W.hideAll_size _ _
theorem yL{h:Heap}{H:Hp}{b:Addr}{o:Obj}(e:h.get? b=some o)(n:H b=none):(sf h H).get? b=some o:=
 PySem.W.hideAll_get _ e λhm=>by
  have q:(H b).isSome=true:=(List.mem_filter.mp hm).2;rw[n]at q;simp at q
theorem BD{h:Heap}{H:Hp}{b:Addr}{o:Obj}(e:(sf h H).get? b=some o):h.get? b=some o/\H b=none:=by
 have e':h.get? b=some o:=PySem.W.of_hideAll (DV h H) e;refine⟨e',?_⟩;cases q:H b with
 |none=>rfl
 |some x=>
  have hm:b∈DV h H:=List.mem_filter.mpr ⟨List.mem_range.mpr (Hu e'),by simp[q]⟩;have z:(sf h H).get? b=none:=PySem.W.hideAll_none (DV h H) hm;rw[z]at e;cases e
noncomputable def BE(g h:Heap)(L:Addr):List (Addr×Obj):=(List.range h.objs.size).filterMap λa=>if a=L\/(g.get? a).isSome=true then none else(h.get? a).map λo=>(a,o)
noncomputable def bS(g h:Heap)(L d:Addr):List (Addr×Obj):=(BE g h L).filter λp=>decide (p.1≠d)
structure Mod(K:HW)(mg:Ic)(base:Heap):Prop where
 kin:K.In base
 glob:base.Ns mainGlobals mg
 blt:∃mb,base.Ns builtinsNs mb/\∀x:Str,x≠"__name__"->mb x=bootBuiltins x
 nolimit:base.NoLimit
structure Cx where
 prog:Program
 w:World
 K:PySem.W.Frag
 mg:Str->Option Value
 base:Heap
 A:Around
 N:List Str
 s₀:Shared
 H₀:Hp
 env:Env
 outer:List Env
 stack:List Env
 ex:List Addr
 fn:Str->Bool
 calm:Bool
 pn:List (Addr×Obj)
 xe:Value->Shared->Prop
noncomputable def lG(l:List Env):List Addr:=l.filterMap (·.frame)
noncomputable abbrev Cx.fs(X:Cx):List Addr:=lG X.outer
def DX(sc:Scope)(x:Str):Prop:=sc.names.lookup x=some .local\/sc.names.lookup x=some .cell\/sc.names.lookup x=some .free
def Loc(sc:Scope)(x:Str):Prop:=sc.names.lookup x=some .local\/sc.names.lookup x=some .cell
def Eu(env:Env)(h:Heap)(m:Ic)(x:Str)(u:Value):Prop:=
 (env.kindOf x=some .local/\m x=some u)\/((env.kindOf x=some .cell\/env.kindOf x=some .free)/\∃c,env.cells.lookup x=some c/\h.IsCell c (some u))
structure Cx.Ok(X:Cx):Prop where
 mod:Mod X.K X.mg X.base
 kind:X.env.scope.kind=.function
 glob:X.env.globals=mainGlobals
 blt:X.env.builtins=builtinsNs
 above:X.s₀.heap.objs.size<=X.env.locals
 inj:∀x y c,X.env.cells.lookup x=some c->X.env.cells.lookup y=some c->x=y
 has:∀x,(X.env.kindOf x=some .cell\/X.env.kindOf x=some .free)->∃c,X.env.cells.lookup x=some c
 cab:∀x c,X.fn x=true->X.env.cells.lookup x=some c->X.s₀.heap.objs.size<=c
 hd:X.calm=true->X.A.handled=none
 frames:X.A.frames=some X.stack
 stk:X.stack=X.outer\/(X.stack=X.env::X.outer/\X.env.frame=some X.env.locals)
 exf:∀b∈X.ex,b≠X.env.locals/\∀x c,X.env.cells.lookup x=some c->c≠b
 bs:∀b o,X.base.get? b=some o->X.s₀.heap.get? b=some o/\X.H₀ b=none
 bsz:X.base.objs.size<=X.s₀.heap.objs.size
 noex:∀b o,X.base.get? b=some o->b∉X.ex
 exfs:∀b∈X.ex,b∉X.fs
 funs:X.s₀.heap.FunFrames X.base X.outer
 frf:∀b∈X.fs,X.H₀ b=none
structure Inv(X:Cx)(pins:HX)(σ:List (Option V))(H:Hp)(s:HZ):Prop where
 ok:X.Ok
 os:s.os=X.s₀.os
 bare:AllBare s.gens
 base:Un X.fs X.ex X.H₀ H X.s₀.heap s.heap
 loc:∃m,s.heap.Ns X.env.locals m/\∀(i:Nat) (x:Str) (v:V),X.N[i]?=some x->σ[i]?=some (some v)->DX X.env.scope x->∃u,ba v u/\Eu X.env s.heap m x u
 cell:∀x c,X.env.cells.lookup x=some c->∃v,s.heap.IsCell c v
 free:H X.env.locals=none
 freeC:∀x c,X.env.cells.lookup x=some c->H c=none
 pin:∀p∈X.pn++pins,s.heap.get? p.1=some p.2/\H p.1=none/\p.1≠X.env.locals/\p.1∉X.fs/\∀v,p.2.data≠.cell v
 hok:jZ X.prog X.w H s.heap
 len:σ.length=X.N.length
section
variable {X:Cx}{pins:HX}{σ:List (Option V)}{H H':Hp}{s:HZ}{h':Heap}
theorem Cx.Ok.nofr(ok:X.Ok){b:Addr}{o:Obj}(e:X.base.get? b=some o):b∉X.fs:=λhb=>by
 have:=(ok.funs.mem hb).1;rw[e]at this;cases this
theorem Inv.bs(I:Inv X pins σ H s):∀b o,X.base.get? b=some o->s.heap.get? b=some o/\H b=none:=λb o e=>
 ⟨I.base.keep b o (I.ok.bs b o e).1 (I.ok.bs b o e).2 (I.ok.nofr e) (I.ok.noex b o e),I.base.free b o (I.ok.bs b o e).1 (I.ok.bs b o e).2 (I.ok.noex b o e)⟩
theorem Inv.bk(I:Inv X pins σ H s):∀b o,X.base.get? b=some o->s.heap.get? b=some o:=λb o e=>(I.bs b o e).1
theorem Inv.mod(I:Inv X pins σ H s):Mod X.K X.mg X.base:=I.ok.mod
theorem Inv.kIn(I:Inv X pins σ H s):X.K.In s.heap:=I.ok.mod.kin.keeps I.bk
theorem Inv.lt(I:Inv X pins σ H s):X.env.locals<s.heap.objs.size:=let ⟨_,hn,_⟩:=I.loc;hn.lt
theorem Inv.sz(I:Inv X pins σ H s):X.s₀.heap.objs.size<=s.heap.objs.size:=Hy I.ok.above (Nat.le_of_lt I.lt)
theorem Inv.nofs(I:Inv X pins σ H s){a:Addr}(h:s.heap.objs.size<=a):a∉X.fs:=λhb=>by
 obtain⟨_,o,ho,_⟩:=I.ok.funs.mem hb;exact absurd (Hl (Hu ho) (Hy I.sz h)) (Hz _)
theorem Inv.cne(I:Inv X pins σ H s):∀x c,X.env.cells.lookup x=some c->c≠X.env.locals:=λx c e z=>by
 obtain⟨v,o,ho,hd⟩:=I.cell x c e;obtain⟨m,⟨o',es,ep,ho',hd',_⟩,_⟩:=I.loc;rw[z,ho']at ho;cases ho;rw[hd']at hd;cases hd
theorem Inv.funs(I:Inv X pins σ H s):s.heap.FunFrames X.base X.outer:=by
 have all:∀(l:List Env),(∀b∈lG l,b∈X.fs)->X.s₀.heap.FunFrames X.base l->s.heap.FunFrames X.base l:=by
  intro l
  induction l with
  |nil=>intro _ _;trivial
  |cons env r ih=>
   intro hs hl;obtain⟨hk,⟨L,o,hf,hn,ho,hd⟩,hr⟩:=hl;have hL:L∈X.fs:=hs L (by unfold lG;rw[List.filterMap_cons,hf];exact List.mem_cons_self);obtain⟨sl,e⟩:=I.base.slot L o ho (I.ok.frf L hL) hL λz=>I.ok.exfs L z hL;exact⟨hk,⟨L,_,hf,hn,e,hd⟩,ih (λb hb=>hs b (by unfold lG;rw[List.filterMap_cons,hf];exact Hj _ hb)) hr⟩
 exact all X.outer (λ_ hb=>hb) I.ok.funs
theorem Inv.stack(I:Inv X pins σ H s):s.heap.FunFrames X.base X.stack:=by
 rcases I.ok.stk with e | ⟨e,hf⟩
 ·rw[e];exact I.funs
 ·rw[e]
  obtain⟨m,hn,_⟩:=I.loc;refine .cons (by rw[I.ok.kind];decide) hf hn ?_ I.funs;exact Heap.get?_none_of_le (Hy I.ok.bsz I.ok.above)
theorem Inv.stkSub(I:Inv X pins σ H s):∀b∈lG X.stack,b∈X.env.locals::X.fs:=λb hb=>by
 rcases I.ok.stk with e | ⟨e,hf⟩
 ·rw[e]at hb;exact Hj _ hb
 ·rw[e]at hb
  unfold lG at hb;rw[List.filterMap_cons,hf]at hb;exact hb
theorem Inv.stkFree(I:Inv X pins σ H s):∀b∈lG X.stack,H b=none:=λb hb=>by
 rcases Hi.mp (I.stkSub b hb) with e | hb
 ·rw[e];exact I.free
 ·obtain⟨_,o,ho,_⟩:=I.ok.funs.mem hb
  exact I.base.free b o ho (I.ok.frf b hb) λz=>I.ok.exfs b z hb
theorem Inv.step{g':Array GenState}{t':Nat}{d':Drawn}{ch:Ib}(I:Inv X pins σ H s)
  (hch:∀b∈ch,(b∈X.ex\/X.s₀.heap.objs.size<=b)/\b≠X.env.locals/\(∀x c,X.env.cells.lookup x=some c->c≠b)/\∀p∈X.pn++pins,p.1≠b)
  (keep:∀b o,b≠X.env.locals->b∉X.fs->b∉ch->s.heap.get? b=some o->H b=none->h'.get? b=some o)
  (slot:∀b o,b≠X.env.locals->b∈X.fs->b∉ch->s.heap.get? b=some o->H b=none->∃sl,h'.get? b=some {o with slots:=sl}) (free:∀b o,b∉ch->s.heap.get? b=some o->H b=none->H' b=none)
  (there:∀b o,b∉ch->s.heap.get? b=some o->∃o',h'.get? b=some o')
  (tups:∀b xs,H b=some (.tup xs)->H' b=some (.tup xs)) (frzs:∀b o u,H b=some (.frz o u)->H' b=some (.frz o u)) (tbls:∀b ps,H b=some (.tbl ps)->∃more,H' b=some (.tbl (ps++more)))
  (ns:∀m,s.heap.Ns X.env.locals m->h'.Ns X.env.locals m) (hok:jZ X.prog X.w H' h') (hg:AllBare g') :
  Inv X pins σ H' {s with heap:=h',gens:=g',drawn:=d',toks:=t' }:=by
 have neL:∀b o,X.s₀.heap.get? b=some o->b≠X.env.locals:=λb o e=>Hm (Hl (Hu e) I.ok.above);have neC:∀b o,X.s₀.heap.get? b=some o->b∉X.ex->b∉ch:=λb o e hx hb=>by
  rcases(hch b hb).1 with z | z
  ·exact hx z
  ·exact absurd (Hl (Hu e) z) (Hz _)
 have cellK:∀x c,X.env.cells.lookup x=some c->∀v,s.heap.IsCell c v->h'.IsCell c v:=λx c e v ⟨o,ho,hd⟩=>by
  have nch:c∉ch:=λz=>(hch c z).2.2.1 x c e rfl
  by_cases hc:c∈X.fs
  ·obtain⟨sl,q⟩:=slot c o (I.cne x c e) hc nch ho (I.freeC x c e)
   exact⟨_,q,hd⟩
  ·exact⟨o,keep c o (I.cne x c e) hc nch ho (I.freeC x c e),hd⟩
 refine⟨I.ok,I.os,hg,⟨λb o e n hb hx=>?_,λb o e n hb hx=>?_,λb o e n hx=>?_,λb o e hx=>?_,λb xs e=>tups b xs (I.base.tups b xs e),λb o xs e=>frzs b o xs (I.base.frzs b o xs e),λb ps e=>?_⟩,?_,λx c e=>?_,?_,λx c e=>?_,λp hp=>?_,hok,I.len⟩
 ·exact keep b o (neL b o e) hb (neC b o e hx) (I.base.keep b o e n hb hx) (I.base.free b o e n hx)
 ·obtain⟨sl,e1⟩:=I.base.slot b o e n hb hx
  obtain⟨sl',e2⟩:=slot b _ (neL b o e) hb (neC b o e hx) e1 (I.base.free b o e n hx);exact⟨sl',e2⟩
 ·obtain⟨o',e1⟩:=I.base.there b o e hx
  exact free b o' (neC b o e hx) e1 (I.base.free b o e n hx)
 ·obtain⟨o',e1⟩:=I.base.there b o e hx
  exact there b o' (neC b o e hx) e1
 ·obtain⟨m1,e1⟩:=I.base.tbls b ps e
  obtain⟨m2,e2⟩:=tbls b _ e1;exact⟨m1++m2,by rw[e2,Array.append_assoc]⟩
 ·obtain⟨m,hn,hl⟩:=I.loc
  refine⟨m,ns m hn,λi x v e1 e2 e3=>?_⟩;obtain⟨u,r,l⟩:=hl i x v e1 e2 e3;refine⟨u,r,?_⟩;rcases l with l | ⟨k,c,e,z⟩
  ·exact .inl l
  ·exact .inr ⟨k,c,e,cellK x c e _ z⟩
 ·obtain⟨v,z⟩:=I.cell x c e
  exact⟨v,cellK x c e v z⟩
 ·obtain⟨m,⟨o,_,_,ho,_⟩,_⟩:=I.loc
  exact free _ o (λz=>(hch _ z).2.1 rfl) ho I.free
 ·obtain⟨v,o,ho,hd⟩:=I.cell x c e
  exact free c o (λz=>(hch c z).2.2.1 x c e rfl) ho (I.freeC x c e)
 ·obtain⟨e,n,ne,nf,d⟩:=I.pin p hp
  have nch:p.1∉ch:=λz=>(hch p.1 z).2.2.2 p hp rfl;exact⟨keep p.1 p.2 ne nf nch e n,free p.1 p.2 nch e n,ne,nf,d⟩
theorem Inv.un{t':Nat}(I:Inv X pins σ H s)(u:Un X.fs [] H H' s.heap h')(hok:jZ X.prog X.w H' h'):Inv X pins σ H' {s with heap:=h',toks:=t' }:=by
 obtain⟨m,⟨o,es,ep,ho,r⟩,_⟩:=id I.loc;obtain⟨sl,hL⟩:=u.any ho I.free (by simp);exact I.step (g':=s.gens) (d':=s.drawn) (ch:=[]) (λ_ z=>nomatch z) (λb o _ hb _ e n=>u.keep b o e n hb (by simp)) (λb o _ hb _ e n=>u.slot b o e n hb (by simp)) (λb o _ e n=>u.free b o e n (by simp)) (λb o _ e=>u.there b o e (by simp)) u.tups u.frzs u.tbls (λm' hm=>by
  obtain⟨o',es',ep',ho',r'⟩:=hm;rw[ho]at ho';cases ho'
  exact⟨_,es',ep',hL,r'⟩) hok I.bare
theorem Inv.call{g':Array GenState}{t':Nat}{d':Drawn}{ch:Ib}(I:Inv X pins σ H s)(u:Un (lG X.stack) ch H H' s.heap h')(hok:jZ X.prog X.w H' h')(hg:AllBare g')
  (hch:∀b∈ch,(b∈X.ex\/X.s₀.heap.objs.size<=b)/\b≠X.env.locals/\(∀x c,X.env.cells.lookup x=some c->c≠b)/\∀p∈X.pn++pins,p.1≠b) :
  Inv X pins σ H' {s with heap:=h',gens:=g',drawn:=d',toks:=t' }:=by
 obtain⟨m,⟨o,es,ep,ho,r⟩,_⟩:=id I.loc;obtain⟨sl,hL⟩:=u.any ho I.free λz=>(hch _ z).2.1 rfl;exact I.step (ch:=ch) hch (λb o hL hb hc e n=>u.keep b o e n (λz=>(Hi.mp (I.stkSub b z)).elim hL hb) hc) (λb o _ _ hc e n=>u.any e n hc) (λb o hc e n=>u.free b o e n hc) (λb o hc e=>u.there b o e hc) u.tups u.frzs u.tbls (λm' hm=>by
  obtain⟨o',es',ep',ho',r'⟩:=hm;rw[ho]at ho';cases ho'
  exact⟨_,es',ep',hL,r'⟩) hok hg
theorem Inv.turned{t':Nat}{it:Addr}(I:Inv X pins σ H s)(k:∀b o,b≠it->s.heap.get? b=some o->h'.get? b=some o)(hn:H it=none)(hL:it≠X.env.locals)
  (h1:it∈X.ex\/X.s₀.heap.objs.size<=it) (h2:∀x c,X.env.cells.lookup x=some c->c≠it) (h3:∀p∈X.pn++pins,p.1≠it):Inv X pins σ H {s with heap:=h',toks:=t' }:=by
 have nit:∀b u,H b=some u->b≠it:=λb u e z=>by rw[z,hn]at e;cases e
 refine I.step (g':=s.gens) (d':=s.drawn) (ch:=[it]) (λb hb=>?_) (λb o _ _ hc e _=>k b o (λz=>hc (by simp[z])) e) (λb o _ _ hc e _=>⟨o.slots,k b o (λz=>hc (by simp[z])) e⟩) (λ_ _ _ _ n=>n)
  (λb o hc e=>⟨o,k b o (λz=>hc (by simp[z])) e⟩) (λ_ _ e=>e) (λ_ _ _ e=>e) (λb ps e=>⟨#[],by rw[e];simp⟩) (λm hm=>?_) (λb u e=>?_) I.bare
 ·have e:b=it:=by simpa using hb
  subst e;exact⟨h1,hL,h2,h3⟩
 ·obtain⟨o,es,ep,ho,r⟩:=hm
  exact⟨o,es,ep,k _ o (Ne.symm hL) ho,r⟩
 ·refine(I.hok b u e).stay (λc v hc q=>k c v ?_ q) (λ_ q=>q) λ_ _ q=>q
  rcases hc with z | z
  ·rw[z];exact nit b u e
  ·exact nit c _ z
theorem Inv.tok(I:Inv X pins σ H s)(t:Nat):Inv X pins σ H {s with toks:=t}:=I.un (h':=s.heap) (t':=t) Un.refl I.hok
theorem Inv.kept{t':Nat}(I:Inv X pins σ H s)(k:∀b u,s.heap.get? b=some u->h'.get? b=some u):Inv X pins σ H {s with heap:=h',toks:=t' }:=I.un (Un.kept k) (I.hok.kept k)
theorem Inv.laid{a:Addr}{o:HO}{t':Nat}(I:Inv X pins σ H s)(k:∀b u,s.heap.get? b=some u->h'.get? b=some u)(hp:s.heap.objs.size<=a)(new:bE X.prog X.w (au H a o) h' a o) :
  Inv X pins σ (au H a o) {s with heap:=h',toks:=t' }:=I.un (Un.laid k hp (I.hok.fresh hp)) (I.hok.laid k hp new)
theorem Inv.write{x e:Addr}{o:HO}{t':Nat}(I:Inv X pins σ H s)(mu:Dx (H x))(he:e=x\/H e=some (.own x))(k:∀b u,b≠e->s.heap.get? b=some u->h'.get? b=some u)(heo:∃u,h'.get? e=some u)
  (new:bE X.prog X.w (au H x o) h' x o):Inv X pins σ (au H x o) {s with heap:=h',toks:=t' }:=I.un (Un.write mu he k heo) (I.hok.write mu he k heo new)
theorem Inv.pins_of{pins':HX}(I:Inv X pins σ H s)(h:∀p∈pins',s.heap.get? p.1=some p.2/\H p.1=none/\p.1≠X.env.locals/\p.1∉X.fs/\∀v,p.2.data≠.cell v):Inv X pins' σ H s:=
 ⟨I.ok,I.os,I.bare,I.base,I.loc,I.cell,I.free,I.freeC,λp hp=>(Hg.mp hp).elim (λz=>I.pin p (List.mem_append_left _ z)) (h p),I.hok,I.len⟩
theorem tu{N:Ih}(hN:N.Nodup){i j:Nat}{x:Str}(a:N[i]?=some x)(b:N[j]?=some x):i=j:=by
 obtain⟨h1,e1⟩:=G5.mp a;obtain⟨h2,e2⟩:=G5.mp b;exact(List.getElem_inj hN).mp (e1.trans e2.symm)
theorem pF{M:Model}{A:Ii}{E:HV}{i:Nat}{x:Str}{v:V}{u:Value}{Q:Unit->Shared->Prop}(I:Inv X pins σ H s)(hN:X.N.Nodup)(hi:X.N[i]?=some x)(hx:Loc X.env.scope x)(r:ba v u)
  (h:∀s',Inv X pins (σ.set i (some v)) H s'->(∃a,Heap.SameBut a s.heap s'.heap/\(a=X.env.locals\/X.env.cells.lookup x=some a))->Q () s') (hf:autoParam (X.fn x=true\/X.env.scope.names.lookup x=some .local) zz3._auto_1):wpAny M A (storeName X.env x u) Q E s:=by
 obtain⟨m,hn,hl⟩:=id I.loc;have hcls:(X.env.scope.kind==.class||(X.env.scope.kind==.module&&X.env.locals != X.env.globals))=false:=by rw[I.ok.kind];rfl
 have hiσ:i<σ.length:=by rw[I.len];exact(G5.mp hi).1
 have cne:=I.cne;have tracked:∀{a:Addr} {h':Heap},(∃o,s.heap.get? a=some o/\H a=none)->Heap.SameBut a s.heap h'->jZ X.prog X.w H h':=fun{a h'} ha hs b ob e=>by
  obtain⟨_,_,hfree⟩:=ha;refine(I.hok b ob e).stay (λc w' hc q=>(hs.2 c ?_).trans q) (λ_ q=>q) λ_ _ q=>q;rintro rfl;rcases hc with rfl | hc
  ·rw[hfree]at e;cases e
  ·rw[hfree]at hc;cases hc
 rcases hx with hk | hk
 ·refine wpAny_storeName_local hk hn (λh' hn' hs=>?_) hcls
  obtain⟨oL,_,_,hoL,_⟩:=id hn;refine h _ ⟨I.ok,I.os,I.bare,⟨λb o e n hb hx=>?_,λb o e n hb hx=>?_,I.base.free,λb o e hx=>?_,I.base.tups,I.base.frzs,I.base.tbls⟩,⟨_,hn',λj y v' e1 e2 e3=>?_⟩,λy c e=>?_,I.free,I.freeC,λp hp=>?_,tracked ⟨oL,hoL,I.free⟩ hs,by simpa using I.len⟩ ⟨_,hs,.inl rfl⟩
  ·exact(hs.2 b (Hm (Hl (Hu e) I.ok.above))).trans (I.base.keep b o e n hb hx)
  ·obtain⟨sl,e1⟩:=I.base.slot b o e n hb hx
   exact⟨sl,(hs.2 b (Hm (Hl (Hu e) I.ok.above))).trans e1⟩
  ·obtain⟨o',e1⟩:=I.base.there b o e hx
   exact⟨o',(hs.2 b (Hm (Hl (Hu e) I.ok.above))).trans e1⟩
  ·by_cases hj:j=i
   ·subst hj
    rw[hi]at e1;cases e1
    rw[HD hiσ]at e2;cases e2;exact⟨u,r,.inl ⟨hk,by simp⟩⟩
   ·rw[List.getElem?_set_ne (Ne.symm hj)]at e2
    obtain⟨u',r',q⟩:=hl j y v' e1 e2 e3;refine⟨u',r',?_⟩;rcases q with⟨k,e⟩ | ⟨k,c,e,z⟩
    ·refine .inl ⟨k,?_⟩
     have:y≠x:=λe=>hj (tu hN e1 (e▸hi));simp[this,e]
    ·exact .inr ⟨k,c,e,z.sameBut hs (cne y c e)⟩
  ·obtain⟨w',z⟩:=I.cell y c e
   exact⟨w',z.sameBut hs (cne y c e)⟩
  ·obtain⟨e,n,ne,nf,d⟩:=I.pin p hp
   exact⟨(hs.2 p.1 ne).trans e,n,ne,nf,d⟩
 ·have hfn:X.fn x=true:=by
   rcases hf with z | z
   ·exact z
   ·rw[z]at hk;cases hk
  obtain⟨c,hc⟩:=I.ok.has x (.inl hk);obtain⟨w',z⟩:=I.cell x c hc;refine wpAny_storeName_cell I.ok.kind hk hc z (λh' hc' hs=>?_);obtain⟨oc,hoc,hocd⟩:=id z;refine h {s with heap:=h' } ⟨I.ok,I.os,I.bare,⟨λb o e n hb hx=>?_,λb o e n hb hx=>?_,I.base.free,λb o e hx=>?_,I.base.tups,I.base.frzs,I.base.tbls⟩,⟨m,hn.sameBut hs (Ne.symm (cne x c hc)),λj y v' e1 e2 e3=>?_⟩,λy c' e=>?_,I.free,I.freeC,λp hp=>?_,tracked ⟨oc,hoc,I.freeC x c hc⟩ hs,by simpa using I.len⟩ ⟨c,hs,.inr hc⟩
  ·exact(hs.2 b (Hm (Hl (Hu e) (I.ok.cab x c hfn hc)))).trans (I.base.keep b o e n hb hx)
  ·obtain⟨sl,e1⟩:=I.base.slot b o e n hb hx
   exact⟨sl,(hs.2 b (Hm (Hl (Hu e) (I.ok.cab x c hfn hc)))).trans e1⟩
  ·obtain⟨o',e1⟩:=I.base.there b o e hx
   exact⟨o',(hs.2 b (Hm (Hl (Hu e) (I.ok.cab x c hfn hc)))).trans e1⟩
  ·by_cases hj:j=i
   ·subst hj
    rw[hi]at e1;cases e1
    rw[HD hiσ]at e2;cases e2;exact⟨u,r,.inr ⟨.inl hk,c,hc,hc'⟩⟩
   ·rw[List.getElem?_set_ne (Ne.symm hj)]at e2
    obtain⟨u',r',q⟩:=hl j y v' e1 e2 e3;refine⟨u',r',?_⟩;rcases q with q | ⟨k,c',e,z'⟩
    ·exact .inl q
    ·refine .inr ⟨k,c',e,z'.sameBut hs ?_⟩
     rintro rfl;exact hj (tu hN e1 (I.ok.inj _ _ _ e hc▸hi))
  ·by_cases hcc:c'=c
   ·subst hcc;exact⟨_,hc'⟩
   ·obtain⟨w2,z2⟩:=I.cell y c' e
    exact⟨w2,z2.sameBut hs hcc⟩
  ·obtain⟨e,n,ne,nf,d⟩:=I.pin p hp
   refine⟨(hs.2 p.1 ?_).trans e,n,ne,nf,d⟩;intro q;rw[q,hoc]at e;have q':oc=p.2:=Option.some.inj e;exact d w' (by rw[<- q'];exact hocd)
theorem tz{M:Model}{A:Ii}{E:HV}{i:Nat}{x:Str}{v:V}{u:Value}{Q:Unit->Shared->Prop}(I:Inv X pins σ H s)(hN:X.N.Nodup)(hi:X.N[i]?=some x)(hx:Loc X.env.scope x)(r:ba v u)
  (h:∀s',Inv X pins (σ.set i (some v)) H s'->Q () s') (hf:autoParam (X.fn x=true\/X.env.scope.names.lookup x=some .local) zz3._auto_1):wpAny M A (storeName X.env x u) Q E s:=
 pF I hN hi hx r (λs' I' _=>h s' I') hf
theorem Inv.call'{s':HZ}{ch:Ib}(I:Inv X pins σ H s)(ho:s'.os=s.os)(u:Un (lG X.stack) ch H H' s.heap s'.heap)(hok:jZ X.prog X.w H' s'.heap)(hg:AllBare s'.gens)
  (hch:∀b∈ch,(b∈X.ex\/X.s₀.heap.objs.size<=b)/\b≠X.env.locals/\(∀x c,X.env.cells.lookup x=some c->c≠b)/\∀p∈X.pn++pins,p.1≠b):Inv X pins σ H' s':=by
 obtain⟨h',g',d',t',o'⟩:=s';have e:o'=s.os:=ho;subst e;exact I.call (g':=g') (t':=t') (d':=d') u hok hg hch
end
noncomputable abbrev XK:=Value->Option Addr->Hp->Prop
noncomputable abbrev St:=List (Option V)
noncomputable abbrev VK:=V->Hp->Prop
noncomputable abbrev TE:=St->Hp->VK->Prop
noncomputable abbrev TT:=St->Hp->(Bool->Hp->Prop)->Prop
noncomputable abbrev TA:=St->Hp->(List V->Hp->Prop)->Prop
structure iJ where
 nx:St->Hp->Prop
 rt:VK
 bk:St->Hp->Prop:=λ_ _=>False
 ct:St->Hp->Prop:=λ_ _=>False
noncomputable abbrev TS:=iJ->St->Hp->Prop
def EP(X:Cx)(pins:HX)(σ:St)(Q:VK)(u:Value)(s':HZ):Prop:=∃v H',Inv X pins σ H' s'/\ba v u/\Q v H'
def TP(X:Cx)(pins:HX)(σ:St)(Q:Bool->Hp->Prop)(b:Bool)(s':HZ):Prop:=∃H',Inv X pins σ H' s'/\Q b H'
def AP(X:Cx)(pins:HX)(σ:St)(Q:List V->Hp->Prop)(us:Ia)(s':HZ):Prop:=∃vs H',Inv X pins σ H' s'/\aT vs us/\Q vs H'
def SP(X:Cx)(pins:HX)(D:iJ)(f:Flow)(s':HZ):Prop:=
 match f with
 | .next=>∃σ' H',Inv X pins σ' H' s'/\D.nx σ' H'
 | .brk=>∃σ' H',Inv X pins σ' H' s'/\D.bk σ' H'
 | .cont=>∃σ' H',Inv X pins σ' H' s'/\D.ct σ' H'
 | .ret u=>∃v σ' H',Inv X pins σ' H' s'/\ba v u/\D.rt v H'
def PE(X:Cx)(e:Expr)(t:TE):Prop:=
 ∀(pins:HX) (s:HZ) (σ:St) (H:Hp) (Q:VK),Inv X pins σ H s->t σ H Q->wpAny (model X.prog X.w) X.A (eval e X.env) (EP X pins σ Q) X.xe s
def PT(X:Cx)(e:Expr)(t:TT):Prop:=
 ∀(pins:HX) (s:HZ) (σ:St) (H:Hp) (Q:Bool->Hp->Prop),Inv X pins σ H s->t σ H Q->wpAny (model X.prog X.w) X.A (isTrue e X.env (eval e X.env)) (TP X pins σ Q) X.xe s
def PW(X:Cx)(e:Expr)(t:TT):Prop:=
 ∀(whole:Sem Value) (pins:HX) (s:HZ) (σ:St) (H:Hp) (Q:Bool->Hp->Prop),Inv X pins σ H s->t σ H Q->wpAny (model X.prog X.w) X.A (isTrue e X.env whole) (TP X pins σ Q) X.xe s
theorem PW.pt{X:Cx}{e:Expr}{t:TT}(h:PW X e t):PT X e t:=h _
def PA(X:Cx)(es:Il)(t:TA):Prop:=
 ∀(pos:Pos) (pins:HX) (s:HZ) (σ:St) (H:Hp) (Q:List V->Hp->Prop),Inv X pins σ H s->t σ H Q->wpAny (model X.prog X.w) X.A (spliced (backTo pos (starEach es X.env))) (AP X pins σ Q) X.xe s
def PS(X:Cx)(st:Stmt)(t:TS):Prop:=
 ∀(pins:HX) (s:HZ) (σ:St) (H:Hp) (D:iJ),Inv X pins σ H s->t D σ H->wpAny (model X.prog X.w) X.A (exec st X.env) (SP X pins D) X.xe s
def ut(X:Cx)(st:List Stmt)(t:TS):Prop:=
 ∀(pins:HX) (s:HZ) (σ:St) (H:Hp) (D:iJ),Inv X pins σ H s->t D σ H->wpAny (model X.prog X.w) X.A (execs st X.env) (SP X pins D) X.xe s
theorem bK{α:Type}{t:Sem α}{Q Q':α->Shared->Prop}{M:Model}{A:Ii}{E:HV}{s:HZ}(h:wpAny M A t Q E s)(hQ:∀a s,Q a s->Q' a s):wpAny M A t Q' E s:=wpAny_mono h hQ λ_ _ x=>x
section
variable {X:Cx}
theorem G3{a b:Expr}{ta tb:TE}(ha:PE X a ta)(hb:PE X b tb){pins:HX}{s:HZ}{σ:St}{H:Hp}{R:V->V->Hp->Prop}(I:Inv X pins σ H s)(h:ta σ H λx H1=>tb σ H1 λy H2=>R x y H2)
  {α:Type} {Q:α->Shared->Prop} {f:Value->Value->Sem α}
  (hf:∀v u s2 x y H2,Inv X pins σ H2 s2->ba x v->ba y u->R x y H2->wpAny (model X.prog X.w) X.A (f v u) Q X.xe s2) :
  wpAny (model X.prog X.w) X.A (eval a X.env) (λv s₁=>wpAny (model X.prog X.w) X.A (eval b X.env) (λu s₂=>wpAny (model X.prog X.w) X.A (f v u) Q X.xe s₂) X.xe s₁) X.xe s:=by
 refine bK (ha pins s σ H _ I h) λv s1 ⟨x,H1,I1,r1,q1⟩=>?_;refine bK (hb pins s1 σ H1 _ I1 q1) λu s2 ⟨y,H2,I2,r2,q2⟩=>?_;exact hf v u s2 x y H2 I2 r1 r2 q2
noncomputable def uJ(i:Nat):TE:=λσ H Q=>∃v,σ[i]?=some (some v)/\Q v H
noncomputable def tC(v:V):TE:=λ_ H Q=>Q v H
theorem C4{i:Nat}{x:Str}{pos:Pos}(hN:X.N[i]?=some x)(hv:DX X.env.scope x)(hd:autoParam ((x==("__debug__":Str))=false) zz1._auto_1)(hcd:autoParam ((x==("__classdict__":Str))=false) zz1._auto_1):PE X (.Name x pos) (uJ i):=by
 intro pins s σ H Q I h;obtain⟨v,e,h⟩:=h;obtain⟨m,hn,hl⟩:=I.loc;obtain⟨u,r,l⟩:=hl i x v hN e hv;have fin:EP X pins σ Q u s:=⟨v,H,I,r,h⟩;rcases l with⟨hk,hm⟩ | ⟨hk,c,hc,hcell⟩
 ·exact wpAny_Name (wpAny_loadName_local I.ok.kind hk hn hm fin) hd
 ·rcases hk with hk | hk
  ·exact wpAny_Name (wpAny_loadName_cell I.ok.kind hk hc hcell fin) hd
  ·exact wpAny_Name (wpAny_loadName_free I.ok.kind hk hc hcell fin hcd) hd
theorem ah{i j pos}:PE X (.Constant (.int i) j pos) (tC (.int i)):=λ_ _ _ H _ I h=>wpAny_Constant_int ⟨.int i,H,I.tok _,⟨_,rfl⟩,h⟩
theorem tV{b j pos}:PE X (.Constant (.bool b) j pos) (tC (.bl b)):=λ_ _ _ H _ I h=>Constant_bool ⟨.bl b,H,I,rfl,h⟩
theorem lW{j pos}:PE X (.Constant .none j pos) (tC .non):=λ_ _ _ H _ I h=>Constant_none ⟨.non,H,I,rfl,h⟩
theorem iW{x j pos}:PE X (.Constant (.str x) j pos) (tC (.str x)):=λ_ _ _ H _ I h=>Calls.Constant_str ⟨.str x,H,I.tok _,⟨_,rfl⟩,h⟩
def Gl(X:Cx)(x:Str):Prop:=X.env.kindOf x=some .globalImplicit
theorem jw{E:HV}{pins:HX}{s:HZ}{σ:St}{H:Hp}{x:Str}{u:Value}{pos:Pos}{Q:HV}(I:Inv X pins σ H s)(hg:Gl X x)(hm:X.mg x=some u)(h:Q u s)
  (hd:autoParam ((x==("__debug__":Str))=false) zz1._auto_1):wpAny (model X.prog X.w) X.A (eval (.Name x pos) X.env) Q E s:=
 Calls.Name_function_global I.ok.kind hg (Calls.loadGlobal_global (by rw[I.ok.glob];exact I.mod.glob.keeps I.bk) hm h) hd
theorem dL{E:HV}{pins:HX}{s:HZ}{σ:St}{H:Hp}{x:Str}{u:Value}{pos:Pos}{Q:HV}(I:Inv X pins σ H s)(hg:Gl X x)(hm:X.mg x=none)(hv:bootBuiltins x=some u)(h:Q u s)
  (hn:autoParam (x≠"__name__") zz1._auto_1) (hd:autoParam ((x==("__debug__":Str))=false) zz1._auto_1):wpAny (model X.prog X.w) X.A (eval (.Name x pos) X.env) Q E s:=by
 obtain⟨mb,h1,h2⟩:=I.mod.blt;exact Calls.Name_function_global I.ok.kind hg (Calls.loadGlobal_builtin (by rw[I.ok.glob];exact I.mod.glob.keeps I.bk) hm (by rw[I.ok.blt];exact h1.keeps I.bk) ((h2 x hn).trans hv) h) hd
theorem eJ{x:Str}{v:V}{u:Value}{pos:Pos}(hg:Gl X x)(hm:X.mg x=some u)(r:ba v u)(hd:autoParam ((x==("__debug__":Str))=false) zz1._auto_1):PE X (.Name x pos) (tC v):=
 λ_ _ _ H _ I h=>jw I hg hm ⟨v,H,I,r,h⟩ hd
theorem wS{x:Str}{v:V}{u:Value}{pos:Pos}(hg:Gl X x)(hm:X.mg x=none)(hv:bootBuiltins x=some u)(r:ba v u)(hn:autoParam (x≠"__name__") zz1._auto_1)(hd:autoParam ((x==("__debug__":Str))=false) zz1._auto_1):PE X (.Name x pos) (tC v):=
 λ_ _ _ H _ I h=>dL I hg hm hv ⟨v,H,I,r,h⟩ hn hd
variable {a b:Expr}{ta tb:TE}{pos:Pos}
def PC(X:Cx)(op:CmpOp)(a b:Expr)(t:TE):Prop:=
 ∀(pins:HX) (s:HZ) (σ:St) (H:Hp) (Q:VK),Inv X pins σ H s->t σ H Q ->
  wpAny (model X.prog X.w) X.A (eval a X.env) (λv s₁=>wpAny (model X.prog X.w) X.A (eval b X.env) (λu s₂=>wpAny (model X.prog X.w) X.A (compareOp op v u) (EP X pins σ Q) X.xe s₂) X.xe s₁) X.xe s
theorem yK(b:Expr){op:CmpOp}(h:op≠.In)(h2:op≠.NotIn):behindInMarks op b=false:=by
 have e1:(op==CmpOp.In)=false:=by cases op<;>first | rfl | exact absurd rfl h
 have e2:(op==CmpOp.NotIn)=false:=by cases op<;>first | rfl | exact absurd rfl h2
 cases b<;>simp[behindInMarks,e1,e2]
noncomputable def tB(t:TE):TT:=λσ H Q=>t σ H λx H1=>∃c,x=.bl c/\Q c H1
theorem yJ{op:CmpOp}{t:TE}(h:PC X op a b t)(h1:behindInMarks op b=false:=by first | exact yK _ nofun nofun | rfl):PT X (.Compare a [op] [b] pos) (tB t):=by
 intro pins s σ H Q I hw;refine wpAny_isTrue_Compare1 (bK (h pins s σ H _ I hw) λv s1 h1=>bK h1 λu s2 h2=>bK h2 λc s3 ⟨x,H1,I1,r1,q1⟩=>?_) h1;obtain⟨d,rfl,q⟩:=q1;cases r1;exact wpAny_truthy_bool ⟨H1,I1,q⟩
variable {tA tB':TT}{bS:Il}
noncomputable def CC(t u:TT):TT:=λσ H Q=>t σ H λc H1=>if c=true then u σ H1 Q else Q false H1
noncomputable def Ek(t u:TT):TT:=λσ H Q=>t σ H λc H1=>if c=true then Q true H1 else u σ H1 Q
noncomputable def Ct(t:TT):TT:=λσ H Q=>t σ H λc H1=>Q (!c) H1
theorem kX(ha:PT X a tA):PW X (.BoolOp .And [a] pos) tA:=by
 intro wh pins s σ H Q I h;refine isTrue_and (bK (ha pins s σ H Q I h) λc s1 e=>?_);cases c with
 |true=>exact isTrue_and_nil e
 |false=>exact e
theorem kt(ha:PT X a tA):PW X (.BoolOp .Or [a] pos) tA:=by
 intro wh pins s σ H Q I h;refine isTrue_or (bK (ha pins s σ H Q I h) λc s1 e=>?_);cases c with
 |false=>exact isTrue_or_nil e
 |true=>exact e
theorem kC(ha:PT X a tA)(hb:PW X (.BoolOp .And (b::bS) pos) tB'):PW X (.BoolOp .And (a::b::bS) pos) (CC tA tB'):=by
 intro wh pins s σ H Q I h;refine isTrue_and (bK (ha pins s σ H _ I h) λc s1 ⟨H1,I1,q1⟩=>?_);cases c with
 |true=>exact hb wh pins s1 σ H1 Q I1 q1
 |false=>exact⟨H1,I1,q1⟩
theorem my(ha:PT X a tA)(hb:PW X (.BoolOp .Or (b::bS) pos) tB'):PW X (.BoolOp .Or (a::b::bS) pos) (Ek tA tB'):=by
 intro wh pins s σ H Q I h;refine isTrue_or (bK (ha pins s σ H _ I h) λc s1 ⟨H1,I1,q1⟩=>?_);cases c with
 |true=>exact⟨H1,I1,q1⟩
 |false=>exact hb wh pins s1 σ H1 Q I1 q1
theorem kF(ha:PT X a tA):PT X (.UnaryOp .Not a pos) (Ct tA):=by
 intro pins s σ H Q I h;exact isTrue_not (ha pins s σ H (λc H1=>Q (!c) H1) I h)
noncomputable def Ae(ta tb:TE):TE:=λσ H Q=>ta σ H λx H1=>∃c,x=.bl c/\if c=true then tb σ H1 Q else Q (.bl false) H1
noncomputable def An(ta:TE):TE:=λσ H Q=>ta σ H λx H1=>∃c,x=.bl c/\Q (.bl (!c)) H1
theorem qJ{op}{t:TE}(h:PE X a t):PE X (.BoolOp op [a] pos) t:=λpins s σ H Q I hw=>BoolOp_one (h pins s σ H Q I hw)
theorem nh(ha:PE X a ta)(hb:PE X (.BoolOp .And (b::bS) pos) tb):PE X (.BoolOp .And (a::b::bS) pos) (Ae ta tb):=by
 intro pins s σ H Q I h;refine BoolOp_and (bK (ha pins s σ H _ I h) λv s1 ⟨x,H1,I1,r1,q1⟩=>?_);obtain⟨c,rfl,q1⟩:=q1;cases r1;refine wpAny_truthy_bool ?_;cases c with
 |true=>exact hb pins s1 σ H1 Q I1 q1
 |false=>exact⟨.bl false,H1,I1,rfl,q1⟩
theorem vU(ha:PE X a ta):PE X (.UnaryOp .Not a pos) (An ta):=by
 intro pins s σ H Q I h;refine UnaryOp_ (bK (ha pins s σ H _ I h) λv s1 ⟨x,H1,I1,r1,q1⟩=>?_);obtain⟨c,rfl,q1⟩:=q1;cases r1;exact not_of (wpAny_truthy_bool ⟨.bl (!c),H1,I1,rfl,q1⟩)
noncomputable def Ea(t:TT)(ta tb:TE):TE:=λσ H Q=>t σ H λc H1=>if c=true then ta σ H1 Q else tb σ H1 Q
theorem iO{c:Expr}(hc:PT X c tA)(ha:PE X a ta)(hb:PE X b tb):PE X (.IfExp c a b pos) (Ea tA ta tb):=by
 intro pins s σ H Q I h;refine wpAny_IfExp (bK (hc pins s σ H _ I h) λd s1 ⟨H1,I1,q1⟩=>?_);cases d with
 |true=>exact ha pins s1 σ H1 Q I1 q1
 |false=>exact hb pins s1 σ H1 Q I1 q1
end
def aN(K:HW)(H:Hp)(a:Addr)(xs:List V):Prop:=
 Rd H a (.lst xs) \/
  ∃(o:Obj) (its:Array Value) (n:Nat),K.lookup a=some o/\o.cls=.type "list"/\o.dict=none/\o.data=.seq its n/\its.size<=sizeLine/\aT xs its.toList
def bx(K:HW)(H:Hp)(a:Addr)(xs:List V):Prop:=
 Rd H a (.tup xs) \/
  ∃(o:Obj) (its:Array Value) (n:Nat),K.lookup a=some o/\o.cls=.type "tuple"/\o.data=.seq its n/\its.size<=sizeLine/\aT xs its.toList
noncomputable def Eh:Value->Option V
 | .none=>some .non
 | .bool b=>some (.bl b)
 | .int i _=>some (.int i)
 | .str x _=>some (.str x)
 | .bytes b _=>some (.byt b)
 | .float b _=>some (.flt b)
 | .ref a=>some (.ref a)
 | .type n=>some (.ty n)
 |_=>none
theorem ba.abs{x:V}{u:Value}(r:ba x u):Eh u=some x:=by
 cases x with
 |non=>cases r;rfl
 |bl _=>cases r;rfl
 |int _=>obtain⟨t,rfl⟩:=r;rfl
 |str _=>obtain⟨t,rfl⟩:=r;rfl
 |byt _=>obtain⟨t,rfl⟩:=r;rfl
 |flt _=>obtain⟨t,rfl⟩:=r;rfl
 |ref _=>cases r;rfl
 |ty _=>cases r;rfl
theorem ba.inj{x y:V}{u:Value}(r:ba x u)(q:ba y u):x=y:=Option.some.inj (r.abs.symm.trans q.abs)
theorem aT.inj:∀{xs ys:List V} {us:Ia},aT xs us->aT ys us->xs=ys
 |_,_,_,.nil,.nil=>rfl
 |_,_,_,.cons r t,.cons r' t'=>by rw[r.inj r',aT.inj t t']
section
variable {X:Cx}{pins:HX}{σ:St}{H:Hp}{s:HZ}{a:Addr}{xs ys:List V}
theorem aN.of{K:HW}(h:H a=some (.lst xs)):aN K H a xs:=.inl (.inl h)
theorem bx.of{K:HW}(h:H a=some (.tup xs)):bx K H a xs:=.inl (.inl h)
theorem Inv.list(I:Inv X pins σ H s)(h:aN X.K H a xs):∃its:List Value,aT xs its/\PlainL s.heap a its.toArray/\xs.length<=sizeLine:=by
 rcases h with h | ⟨o,its,n,hk,hc,hd,hs,hz,r⟩
 ·obtain⟨z,its,n,r,e⟩:=h.ok I.hok
  exact⟨its,r,⟨_,n,e,rfl,rfl,rfl⟩,z⟩
 ·refine⟨its.toList,r,⟨o,n,I.kIn a o hk,hc,hd,by simpa using hs⟩,?_⟩
  have e:=r.length;simp only[Array.length_toList]at e;omega
theorem Inv.tuple(I:Inv X pins σ H s)(h:bx X.K H a xs):∃its:List Value,aT xs its/\IsTup s.heap a its.toArray/\xs.length<=sizeLine:=by
 rcases h with h | ⟨o,its,n,hk,hc,hs,hz,r⟩
 ·obtain⟨z,its,r,p⟩:=h.ok I.hok
  exact⟨its,r,p,z⟩
 ·refine⟨its.toList,r,⟨o,I.kIn a o hk,hc,n,by simpa using hs⟩,?_⟩
  have e:=r.length;simp only[Array.length_toList]at e;omega
theorem Inv.list_inj(I:Inv X pins σ H s)(h:aN X.K H a xs)(h':aN X.K H a ys):xs=ys:=by
 obtain⟨its,r,⟨o,n,e,_,_,d⟩,_⟩:=I.list h;obtain⟨its',r',⟨o',n',e',_,_,d'⟩,_⟩:=I.list h';rw[e]at e';cases e'
 rw[d]at d'
 injection d' with d1 _
 have:its=its':=by simpa using congrArg Array.toList d1
 subst this;exact r.inj r'
theorem Inv.tuple_inj(I:Inv X pins σ H s)(h:bx X.K H a xs)(h':bx X.K H a ys):xs=ys:=by
 obtain⟨its,r,⟨o,e,_,n,d⟩,_⟩:=I.tuple h;obtain⟨its',r',⟨o',e',_,n',d'⟩,_⟩:=I.tuple h';rw[e]at e';cases e'
 rw[d]at d'
 injection d' with d1 _
 have:its=its':=by simpa using congrArg Array.toList d1
 subst this;exact r.inj r'
end
noncomputable abbrev Cx.wish(X:Cx)(E:HV):Cx:={X with xe:=E}
noncomputable abbrev Cx.nox(X:Cx):Cx:=X.wish λ_ _=>False
theorem Cx.Ok.wish{X:Cx}(ok:X.Ok)(E:HV):(X.wish E).Ok:=
 ⟨ok.mod,ok.kind,ok.glob,ok.blt,ok.above,ok.inj,ok.has,ok.cab,ok.hd,ok.frames,ok.stk,ok.exf,ok.bs,ok.bsz,ok.noex,ok.exfs,ok.funs,ok.frf⟩
theorem Cx.Ok.unwish{X:Cx}{E:HV}(ok:(X.wish E).Ok):X.Ok:=
 ⟨ok.mod,ok.kind,ok.glob,ok.blt,ok.above,ok.inj,ok.has,ok.cab,ok.hd,ok.frames,ok.stk,ok.exf,ok.bs,ok.bsz,ok.noex,ok.exfs,ok.funs,ok.frf⟩
section
variable {X:Cx}{pins:HX}{σ:St}{H:Hp}{s:HZ}{E:HV}
theorem Inv.wish(I:Inv X pins σ H s)(E:HV):Inv (X.wish E) pins σ H s:=⟨I.ok.wish E,I.os,I.bare,I.base,I.loc,I.cell,I.free,I.freeC,I.pin,I.hok,I.len⟩
theorem Inv.unwish(I:Inv (X.wish E) pins σ H s):Inv X pins σ H s:=⟨I.ok.unwish,I.os,I.bare,I.base,I.loc,I.cell,I.free,I.freeC,I.pin,I.hok,I.len⟩
theorem SP.unwish{D:iJ}{f:Flow}{s':HZ}(h:SP (X.wish E) pins D f s'):SP X pins D f s':=by
 cases f with
 |next=>obtain⟨σ',H',I,q⟩:=h;exact⟨σ',H',I.unwish,q⟩
 |brk=>obtain⟨σ',H',I,q⟩:=h;exact⟨σ',H',I.unwish,q⟩
 |cont=>obtain⟨σ',H',I,q⟩:=h;exact⟨σ',H',I.unwish,q⟩
 |ret u=>obtain⟨v,σ',H',I,r,q⟩:=h;exact⟨v,σ',H',I.unwish,r,q⟩
theorem ut.nox{st:List Stmt}{t:TS}(h:ut X.nox st t):ut X st t:=λpins s σ H D I hw=>
 wpAny_mono (h pins s σ H D (I.wish _) hw) (λ_ _ q=>q.unwish) λ_ _ z=>False.elim z
end
section
variable {X:Cx}{st:Stmt}{bS:List Stmt}{t u:TS}{e:Expr}{te:TE}{pos:Pos}
noncomputable def zC:TS:=λD σ H=>D.nx σ H
noncomputable def vn(t u:TS):TS:=λD σ H=>t {D with nx:=u D} σ H
theorem aJ:ut X [] zC:=λ_ _ σ H _ I h=>wpAny_execs_nil ⟨σ,H,I,h⟩
theorem ae(h1:PS X st t)(h2:ut X bS u):ut X (st::bS) (vn t u):=by
 intro pins s σ H D I h;refine wpAny_execs_cons (bK (h1 pins s σ H {D with nx:=u D} I h) λf s1 q=>?_);cases f with
 |next=>
  obtain⟨σ',H',I',q⟩:=q;exact h2 pins s1 σ' H' D I' q
 |ret v=>exact q
 |brk=>exact q
 |cont=>exact q
theorem ai(h1:PS X st t):ut X [st] t:=by
 intro pins s σ H D I h;refine wpAny_execs_cons (bK (h1 pins s σ H D I h) λf s1 q=>?_);cases f with
 |next=>exact wpAny_execs_nil q
 |ret v=>exact q
 |brk=>exact q
 |cont=>exact q
theorem Inv.quiet{pins:HX}{σ:St}{H:Hp}{s:HZ}(I:Inv X pins σ H s):interactive X.env=false:=by simp[interactive,I.ok.kind]
noncomputable def Ap(te:TE):TS:=λD σ H=>te σ H λ_ H1=>D.nx σ H1
theorem bu(he:PE X e te)(hs:autoParam (swapsWith e none pos.line X.env=pure false) zz0._auto_1):PS X (.Expr e pos) (Ap te):=by
 intro pins s σ H D I h;exact wpAny_Expr_any (bK (he pins s σ H _ I h) λv s1 ⟨x,H1,I1,r1,q1⟩=>⟨σ,H1,I1,q1⟩) I.quiet hs
noncomputable def Dd(te:TE):TS:=λD σ H=>te σ H D.rt
theorem aG(he:PE X e te):PS X (.Return (some e) pos) (Dd te):=by
 intro pins s σ H D I h;exact wpAny_Return_some (bK (he pins s σ H _ I h) λv s1 ⟨x,H1,I1,r1,q1⟩=>⟨x,σ,H1,I1,r1,q1⟩)
noncomputable def yU:TS:=λD _ H=>D.rt .non H
theorem mR:PS X (.Return none pos) yU:=λ_ _ σ H _ I h=>wpAny_Return_none ⟨.non,σ,H,I,rfl,h⟩
noncomputable def yS(c:TT)(t u:TS):TS:=λD σ H=>c σ H λb H1=>if b=true then t D σ H1 else u D σ H1
theorem bj{c:Expr}{a b:List Stmt}{tc:TT}(hc:PT X c tc)(ha:ut X a t)(hb:ut X b u):PS X (.If c a b pos) (yS tc t u):=by
 intro pins s σ H D I h;refine wpAny_If (bK (hc pins s σ H _ I h) λd s1 ⟨H1,I1,q1⟩=>?_);cases d with
 |true=>exact ha pins s1 σ H1 D I1 q1
 |false=>exact hb pins s1 σ H1 D I1 q1
end
noncomputable abbrev TG:=V->St->Hp->(St->Hp->Prop)->Prop
noncomputable abbrev BZ:=List V->St->Hp->(St->Hp->Prop)->Prop
def PG(X:Cx)(target:Expr)(t:TG):Prop:=
 ∀(pins:HX) (s:HZ) (σ:St) (H:Hp) (v:V) (u:Value) (Q:St->Hp->Prop),Inv X pins σ H s->ba v u->t v σ H Q ->
  wpAny (model X.prog X.w) X.A (assign target X.env u) (λ_ s'=>∃σ' H',Inv X pins σ' H' s'/\Q σ' H') X.xe s
def Dy(X:Cx)(ts:Il)(t:BZ):Prop:=
 ∀(pins:HX) (s:HZ) (σ:St) (H:Hp) (vs:List V) (us:Ia) (Q:St->Hp->Prop),Inv X pins σ H s->aT vs us->t vs σ H Q ->
  wpAny (model X.prog X.w) X.A (assignInOrder ((assignEach ts X.env).map (·.2)) us) (λ_ s'=>∃σ' H',Inv X pins σ' H' s'/\Q σ' H') X.xe s
section
variable {X:Cx}{pos:Pos}
noncomputable def j_(i:Nat):TG:=λv σ H Q=>Q (σ.set i (some v)) H
theorem av{i:Nat}{x:Str}(hN:X.N.Nodup)(hi:X.N[i]?=some x)(hx:Loc X.env.scope x)(hf:autoParam (X.fn x=true\/X.env.scope.names.lookup x=some .local) zz3._auto_1):PG X (.Name x pos) (j_ i):=by
 intro pins s σ H v u Q I r h;exact wpAny_assign_Name (tz I hN hi hx r (λs' I'=>⟨_,H,I',h⟩) hf)
noncomputable def yx:BZ:=λvs σ H Q=>vs=[]/\Q σ H
noncomputable def sH(t:TG)(u:BZ):BZ:=λvs σ H Q=>∃v r,vs=v::r/\t v σ H λσ' H'=>u r σ' H' Q
theorem c_:Dy X [] yx:=by
 intro pins s σ H vs us Q I r h;obtain⟨e,h⟩:=h;subst e;cases r;exact assignInOrder_nil ⟨σ,H,I,h⟩
theorem aL{e:Expr}{es:Il}{t:TG}{u:BZ}(h1:PG X e t)(h2:Dy X es u)
  (hs:autoParam ((assignEach (e::es) X.env).map (·.2)=assign e X.env::(assignEach es X.env).map (·.2)) zz0._auto_1):Dy X (e::es) (sH t u):=by
 intro pins s σ H vs us Q I r h;obtain⟨v,vr,e1,h⟩:=h;subst e1;cases r with
 |cons r rr=>
  rw[hs];refine assignInOrder_cons (bK (h1 pins s σ H _ _ _ I r h) λ_ s1 ⟨σ1,H1,I1,q1⟩=>?_);exact h2 pins s1 σ1 H1 _ _ Q I1 rr q1
noncomputable def wV(K:HW)(n:Nat)(t:BZ):TG:=λv σ H Q=>∃a xs,v=.ref a/\bx K H a xs/\xs.length=n/\t xs σ H Q
theorem gI{es:Il}{k:Nat}{t:BZ}{n:Nat}(hc:X.calm=true)(h:Dy X es t)
  (hn:autoParam ((assignEach es X.env).length=n) zz0._auto_1) (hst:autoParam ((assignEach es X.env).findIdx? (·.1)=none) zz0._auto_1):PG X (.Tuple es k pos) (wV X.K n t):=by
 intro pins s σ H v u Q I r hw;obtain⟨a,xs,e1,hq,hl,hw⟩:=hw;subst e1;cases r;obtain⟨its,rv,ht,hz⟩:=I.tuple hq;refine assign_Tuple_tuple (I.ok.hd hc) ht (by simp[hn,<- hl,rv.length]) hst λh' hx=>?_;have I1:Inv X pins σ H {s with heap:=h' }:=I.kept (t':=s.toks) λb o e=>hx b o (Hm (Hu e)) e;exact h pins _ σ H xs _ Q I1 (by simpa using rv) hw
noncomputable def w8(te:TE)(g:TG):TS:=λD σ H=>te σ H λx H1=>g x σ H1 D.nx
theorem ng{tg e:Expr}{te:TE}{g:TG}(he:PE X e te)(hg:PG X tg g)(hs:autoParam (swapsWithSole [tg] e pos.line X.env=pure false) zz0._auto_1)(hw:autoParam (swappedStores [tg] e X.env=pure none) zz0._auto_1)
  (h1:autoParam ((assignEach [tg] X.env).map (·.2)=[assign tg X.env]) zz0._auto_1):PS X (.Assign [tg] e pos) (w8 te g):=by
 intro pins s σ H D I h;refine wpAny_Assign_stores (bK (he pins s σ H _ I h) λv s1 ⟨x,H1,I1,r1,q1⟩=>?_) hs hw;rw[h1];exact bK (hg pins s1 σ H1 x v _ I1 r1 q1) λ_ s2 q=>q
theorem aB{i:Nat}{x:Str}{e:Expr}{te:TE}{pos':Pos}(hN:X.N.Nodup)(hi:X.N[i]?=some x)(hx:Loc X.env.scope x)(he:PE X e te)(hs:autoParam (swapsWith e (some (.Name x pos')) pos.line X.env=pure false) zz0._auto_1)(hf:autoParam (X.fn x=true\/X.env.scope.names.lookup x=some .local) zz3._auto_1) :
  PS X (.Assign [.Name x pos'] e pos) (w8 te (j_ i)):=by
 intro pins s σ H D I h;refine wpAny_Assign_Name (bK (he pins s σ H _ I h) λv s1 ⟨y,H1,I1,r1,q1⟩=>?_) hs;exact tz I1 hN hi hx r1 (λs2 I2=>⟨_,H1,I2,q1⟩) hf
end
section
variable {X:Cx}{pos:Pos}
end
structure It where
 go:Nat->Hp->Prop
 yld:Nat->Hp->V->Hp->Prop
 stop:Nat->Hp->Prop
def mI(X:Cx)(pins:HX)(H:Hp)(b:Addr):Prop:=
 H b=none/\b≠X.env.locals/\b∉X.fs/\(b∈X.ex\/X.s₀.heap.objs.size<=b)/\(∀x c,X.env.cells.lookup x=some c->c≠b)/\∀p∈X.pn++pins,p.1≠b
theorem Inv.fpOk{X:Cx}{pins:HX}{σ:St}{H H':Hp}{s:HZ}{b:Addr}(I:Inv X pins σ H s)(hb:s.heap.objs.size<=b)(hn:H' b=none):mI X pins H' b:=by
 refine⟨hn,Nat.ne_of_gt (Hl I.lt hb),I.nofs hb,.inr (Hy I.sz hb),λx c e z=>?_,λp hp z=>?_⟩
 ·obtain⟨v,q⟩:=I.cell x c e
  exact absurd (Hl q.lt (by rw[z];exact hb)) (Hz _)
 ·exact absurd (Hl (Hu (I.pin p hp).1) (by rw[z];exact hb)) (Hz _)
structure so(P:Ig)(w:Ij)(K:HW)(tg:Expr)(J:It)(fp:Ib)(it:Addr)(tn:Nat->Heap->Prop):Prop where
 mem:it∈fp
 obj:∀i h,tn i h->∀b∈fp,∃o,h.get? b=some o/\∀v,o.data≠.cell v
 keep:∀i h h',tn i h->(∀b∈fp,∀o,h.get? b=some o->h'.get? b=some o)->tn i h'
 item:∀(X:Cx),X.prog=P->X.w=w->X.K=K->X.calm=true->∀(i:Nat) (pins:HX) (s:HZ) (σ:St) (H:Hp) (E:HV),Inv X pins σ H s->(∀b∈fp,mI X pins H b)->tn i s.heap->J.go i H ->
  wpAny (model P w) X.A (pyNext (.ref it)) (λr s1=>∃u,r=some u /\
   wpAny (model P w) X.A (letOwnedTupleGo tg (.ref it) u) (λ_ s2=>∃x H',Inv X pins σ H' s2/\ba x u/\J.yld i H x H'/\tn (i+1) s2.heap/\∀b∈fp,H' b=none) E s1) E s
 done:∀(X:Cx),X.prog=P->X.w=w->X.K=K->X.calm=true->∀(i:Nat) (pins:HX) (s:HZ) (σ:St) (H:Hp) (E:HV),Inv X pins σ H s->(∀b∈fp,mI X pins H b)->tn i s.heap->J.stop i H ->
  wpAny (model P w) X.A (pyNext (.ref it)) (λr s1=>r=none/\Inv X pins σ H s1) E s
 self:∀(A:Ii) (i:Nat) (s:HZ) (Q:HV) (E:HV),tn i s.heap->Q (.ref it) s->wpAny (model P w) A (pyIter (.ref it)) Q E s
noncomputable abbrev TI:=St->Hp->(It->Hp->Prop)->Prop
def EI(X:Cx)(pins:HX)(σ:St)(tg:Expr)(R:It->Hp->Prop)(itv:Value)(s2:HZ):Prop:=
 ∃(it:Addr) (fp:Ib) (tn:Nat->Heap->Prop) (J:It) (H':Hp),itv=.ref it/\Inv X pins σ H' s2/\so X.prog X.w X.K tg J fp it tn/\tn 0 s2.heap/\(∀b∈fp,mI X pins H' b)/\R J H'
def PI(X:Cx)(tg iter:Expr)(wi:TI):Prop:=
 ∀(pins:HX) (s:HZ) (σ:St) (H:Hp) (R:It->Hp->Prop),Inv X pins σ H s->wi σ H R ->
  wpAny (model X.prog X.w) X.A (eval iter X.env) (λv s1=>wpAny (model X.prog X.w) X.A (pyIter v) (EI X pins σ tg R) X.xe s1) X.xe s
theorem uf{M:Model}{A:Ii}{E:HV}{s:HZ}{tg:Expr}{it:Addr}{u:Value}{o:Obj}{n:String}{vs:Array Value}{Q:Unit->Shared->Prop}(ho:s.heap.get? it=some o)(hc:o.cls=.type n)(hd:o.data=.fields vs)
  (hn:["enumerate","zip","dict_itemiterator","dict_reverseitemiterator","odict_iterator","itertools.zip_longest","itertools.pairwise"].contains n=false) (hQ:Q () s):wpAny M A (letOwnedTupleGo tg (.ref it) u) Q E s:=by
 unfold letOwnedTupleGo;cases tg<;>first
  |exact wpAny_pure hQ
  | (cases u<;>first
    |exact wpAny_pure hQ
    | (refine wpAny_bind (wpAny_load ho ?_)
       rw[hc,hd];show wpAny M A (if(["enumerate","zip","dict_itemiterator","dict_reverseitemiterator","odict_iterator","itertools.zip_longest","itertools.pairwise"].contains n&&vs[0]?==some (rawInt _))=true then _ else _) Q E s;rw[if_neg (by intro h;rw[hn,Bool.false_and]at h;cases h)];exact wpAny_pure hQ))
noncomputable def zz(K:HW)(a:Addr):It:=
 ⟨λi H=>∃xs x,aN K H a xs/\xs[i]?=some x,λi H x H'=>H'=H/\∀xs,aN K H a xs->xs[i]?=some x,λi H=>∃xs,aN K H a xs/\xs.length<=i⟩
noncomputable def Do(K:HW)(a:Addr):It:=
 ⟨λi H=>∃xs x,bx K H a xs/\xs[i]?=some x,λi H x H'=>H'=H/\∀xs,bx K H a xs->xs[i]?=some x,λi H=>∃xs,bx K H a xs/\xs.length<=i⟩
noncomputable def zd(lo:Int)(n:Nat):It:=⟨λi _=>i<n,λi H x H'=>H'=H/\x=.int (lo+i),λi _=>n<=i⟩
theorem xY{P:Ig}{w:Ij}{K:HW}{tg:Expr}(a it:Addr):so P w K tg (zz K a) [it] it (λi h=>h.IsListIter it a i) where
 mem:=by simp
 obj:=λi h st b hb=>by
  have e:b=it:=by simpa using hb
  subst e;obtain⟨o,e,c,d⟩:=st;exact⟨o,e,λv z=>by rw[d]at z;cases z⟩
 keep:=λi h h' st k=>st.at λo e=>k it (by simp) o e
 item:=by
  intro X hP hw hK hc i pins s σ H E I hf st hg;subst hP hw hK;obtain⟨xs,x,hq,hx⟩:=hg;obtain⟨its,rv,p,hz⟩:=I.list hq;obtain⟨u,hu,ru⟩:=rv.get hx;obtain⟨f0,f1,f2,f3,f4,f5⟩:=hf it (by simp);refine wpAny_pyNext_list_item st p.isList (x:=u) (by simpa using hu) λh' st' sb=>?_;have I1:Inv X pins σ H {s with heap:=h' }:=I.turned (t':=s.toks) (λb o hb e=>(sb.2 b hb).trans e) f0 f1 f3 f4 f5;obtain⟨o,e,c,d⟩:=id st';exact⟨u,rfl,uf (s:={s with heap:=h' }) e c d nofun ⟨x,H,I1,ru,⟨rfl,λys hy=>by rw[I.list_inj hy hq];exact hx⟩,st',λb hb=>(hf b hb).1⟩⟩
 done:=by
  intro X hP hw hK hc i pins s σ H E I hf st hg;subst hP hw hK;obtain⟨xs,hq,hx⟩:=hg;obtain⟨its,rv,p,hz⟩:=I.list hq;obtain⟨f0,f1,f2,f3,f4,f5⟩:=hf it (by simp);have hl:=rv.length;exact wpAny_pyNext_list_end (I.ok.hd hc) st p.isList (by simp;omega) λh' eb=>⟨rfl,I.turned (t':=s.toks) (λb o hb e=>eb b o hb e) f0 f1 f3 f4 f5⟩
 self:=λ_ _ _ _ _ st h=>wpAny_pyIter_listiter st h
theorem u_{P:Ig}{w:Ij}{K:HW}{tg:Expr}(a it:Addr):so P w K tg (Do K a) [it] it (λi h=>h.IsTupleIter it a i) where
 mem:=by simp
 obj:=λi h st b hb=>by
  have e:b=it:=by simpa using hb
  subst e;obtain⟨o,e,c,d⟩:=st;exact⟨o,e,λv z=>by rw[d]at z;cases z⟩
 keep:=λi h h' st k=>st.at λo e=>k it (by simp) o e
 item:=by
  intro X hP hw hK hc i pins s σ H E I hf st hg;subst hP hw hK;obtain⟨xs,x,hq,hx⟩:=hg;obtain⟨its,rv,p,hz⟩:=I.tuple hq;obtain⟨u,hu,ru⟩:=rv.get hx;obtain⟨f0,f1,f2,f3,f4,f5⟩:=hf it (by simp);refine wpAny_pyNext_tuple_item st (show s.heap.IsTuple a its.toArray from p) (x:=u) (by simpa using hu) λh' st' sb=>?_;have I1:Inv X pins σ H {s with heap:=h' }:=I.turned (t':=s.toks) (λb o hb e=>(sb.2 b hb).trans e) f0 f1 f3 f4 f5;obtain⟨o,e,c,d⟩:=id st';exact⟨u,rfl,uf (s:={s with heap:=h' }) e c d nofun ⟨x,H,I1,ru,⟨rfl,λys hy=>by rw[I.tuple_inj hy hq];exact hx⟩,st',λb hb=>(hf b hb).1⟩⟩
 done:=by
  intro X hP hw hK hc i pins s σ H E I hf st hg;subst hP hw hK;obtain⟨xs,hq,hx⟩:=hg;obtain⟨its,rv,p,hz⟩:=I.tuple hq;obtain⟨f0,f1,f2,f3,f4,f5⟩:=hf it (by simp);have hl:=rv.length;exact wpAny_pyNext_tuple_end (I.ok.hd hc) st (show s.heap.IsTuple a its.toArray from p) (by simp;omega) λh' eb=>⟨rfl,I.turned (t':=s.toks) (λb o hb e=>eb b o hb e) f0 f1 f3 f4 f5⟩
 self:=λ_ _ _ _ _ st h=>wpAny_pyIter_tupleiter st h
theorem vh{P:Ig}{w:Ij}{K:HW}{tg:Expr}(it:Addr)(lo:Int)(n:Nat):so P w K tg (zd lo n) [it] it (λi h=>IsRangeIter h it (lo+(i:Nat)*1) ((n:Int)-(i:Nat)) 1) where
 mem:=by simp
 obj:=λi h st b hb=>by
  have e:b=it:=by simpa using hb
  subst e;exact⟨_,st,λv z=>by
   have z':Data.fields _=Data.cell v:=z;cases z'⟩
 keep:=λi h h' st k=>k it (by simp) _ st
 item:=by
  intro X hP hw hK hc i pins s σ H E I hf st hg;subst hP hw hK;obtain⟨f0,f1,f2,f3,f4,f5⟩:=hf it (by simp);have W:=Walks.range (prog:=X.prog) (w:=X.w) (I.ok.hd hc) it lo 1 n;refine W.item i s _ _ hg st λv h' tk hv st' kk=>?_;obtain⟨t,rfl⟩:=hv;have I1:Inv X pins σ H {s with heap:=h',toks:=tk}:=I.turned (λb o hb e=>kk b o (by simpa using hb) e) f0 f1 f3 f4 f5;refine⟨_,rfl,uf (s:={s with heap:=h',toks:=tk}) (n:="range_iterator") st' rfl rfl nofun ⟨.int (lo+i),H,I1,⟨t,?_⟩,⟨rfl,rfl⟩,st',λb hb=>(hf b hb).1⟩⟩;rw[Int.mul_one]
 done:=by
  intro X hP hw hK hc i pins s σ H E I hf st hg;subst hP hw hK;obtain⟨f0,f1,f2,f3,f4,f5⟩:=hf it (by simp);exact wpAny_pyNext_range_end (I.ok.hd hc) st (by have:n<=i:=hg;omega) λh' eb=>⟨rfl,I.turned (t':=s.toks) (λb o hb e=>eb b o hb e) f0 f1 f3 f4 f5⟩
 self:=λ_ _ _ _ _ st h=>wpAny_pyIter_rangeiter st h
section
variable {X:Cx}{tg:Expr}
noncomputable def zY(K:HW)(tl:TE):TI:=λσ H R=>tl σ H λx H1=>∃a,x=.ref a/\(∃xs,aN K H1 a xs)/\R (zz K a) H1
noncomputable def C9(K:HW)(tl:TE):TI:=λσ H R=>tl σ H λx H1=>∃a,x=.ref a/\(∃xs,bx K H1 a xs)/\R (Do K a) H1
theorem bX{l:Expr}{tl:TE}(hl:PE X l tl):PI X tg l (zY X.K tl):=by
 intro pins s σ H R I h;refine bK (hl pins s σ H _ I h) λv s1 ⟨x,H1,I1,r1,q1⟩=>?_;obtain⟨a,e,⟨xs,hq⟩,q⟩:=q1;subst e;cases r1;obtain⟨its,rv,p,hz⟩:=I1.list hq;refine wpAny_pyIter_list p.isList ?_;refine⟨s1.heap.objs.size,[s1.heap.objs.size],_,_,H1,rfl,I1.kept (t':=s1.toks) λb o e=>G6 _ e,xY a _,⟨_,Ha _ rfl,rfl,rfl⟩,λb hb=>?_,q⟩;have e:b=s1.heap.objs.size:=by simpa using hb
 subst e;exact I1.fpOk (Hr _) (I1.hok.fresh (Hr _))
theorem CD{l:Expr}{tl:TE}(hl:PE X l tl):PI X tg l (C9 X.K tl):=by
 intro pins s σ H R I h;refine bK (hl pins s σ H _ I h) λv s1 ⟨x,H1,I1,r1,q1⟩=>?_;obtain⟨a,e,⟨xs,hq⟩,q⟩:=q1;subst e;cases r1;obtain⟨its,rv,p,hz⟩:=I1.tuple hq;refine wpAny_pyIter_tuple (show s1.heap.IsTuple a its.toArray from p) ?_;refine⟨s1.heap.objs.size,[s1.heap.objs.size],_,_,H1,rfl,I1.kept (t':=s1.toks) λb o e=>G6 _ e,u_ a _,⟨_,Ha _ rfl,rfl,rfl⟩,λb hb=>?_,q⟩;have e:b=s1.heap.objs.size:=by simpa using hb
 subst e;exact I1.fpOk (Hr _) (I1.hok.fresh (Hr _))
theorem sU{pins:HX}{σ:St}{H:Hp}{s:HZ}{R:It->Hp->Prop}{E:HV}{lo hi:Int}{t u v:Tok}{tk:Nat}(I:Inv X pins σ H s)(h1:-(2 ^ 62)<=lo)(h2:lo<2 ^ 62)(h3:-(2 ^ 62)<=hi)(h4:hi<2 ^ 62)
  (q:R (zd lo (hi-lo).toNat) H):wpAny (model X.prog X.w) X.A (pyIter (.ref s.heap.objs.size)) (EI X pins σ tg R) E {s with heap:=s.heap.push {cls:=.type "range",data:=.fields #[.int lo t,.int hi u,.int 1 v]},toks:=tk}:=by
 refine wpAny_pyIter_range (IsRange.new ..) (small_one h1 h2 h3 h4) ?_;have I1:Inv X pins σ H {s with heap:=s.heap.push {cls:=.type "range",data:=.fields #[.int lo t,.int hi u,.int 1 v]},toks:=tk}:=I.kept λb o e=>G6 _ e;refine⟨(s.heap.push {cls:=.type "range",data:=.fields #[.int lo t,.int hi u,.int 1 v]}).objs.size,[(s.heap.push {cls:=.type "range",data:=.fields #[.int lo t,.int hi u,.int 1 v]}).objs.size],_,_,H,rfl,
  I1.kept (t':=tk) λb o e=>G6 _ e,vh _ lo (hi-lo).toNat,?_,λb hb=>?_,q⟩
 ·have e1:lo+((0:Nat):Int)*1=lo:=by simp
  have e2:(((hi-lo).toNat:Nat):Int)-((0:Nat):Int)=Builtin.Range.rangeSize lo hi 1:=by rw[rangeSize_one];split<;>omega
  show IsRangeIter _ _ (lo+((0:Nat):Int)*1) ((((hi-lo).toNat:Nat):Int)-((0:Nat):Int)) 1;rw[e1,e2];exact Ha _ rfl
 ·have e:b=(s.heap.push {cls:=.type "range",data:=.fields #[.int lo t,.int hi u,.int 1 v]}).objs.size:=by simpa using hb
  subst e;exact I1.fpOk (Hr _) (I1.hok.fresh (Hr _))
noncomputable def AE(ta:TA):TI:=λσ H R=>ta σ H λvs H1=>∃j:Int,vs=[.int j]/\-(2 ^ 62)<=j/\j<2 ^ 62/\R (zd 0 j.toNat) H1
noncomputable def AJ(ta:TA):TI:=λσ H R=>ta σ H λvs H1=>∃i j:Int,vs=[.int i,.int j]/\(-(2 ^ 62)<=i/\i<2 ^ 62/\-(2 ^ 62)<=j/\j<2 ^ 62)/\R (zd i (j-i).toNat) H1
theorem dq{a:Expr}{ta:TA}{p pos:Pos}(hg:Gl X "range")(hm:X.mg "range"=none)(ha:PA X [a] ta)(hs:autoParam (starEach [a] X.env=[(false,eval a X.env)]) zz0._auto_1):PI X tg (.Call (.Name "range" p) [a] [] pos) (AE ta):=by
 intro pins s σ H R I h;refine Call_ (dL I hg hm boot_range (PyProof.Rows.callWith_type1 (bK (ha pos pins s σ H _ I h) λus s1 ⟨vs,H1,I1,r1,q1⟩=>?_) hs rfl));obtain⟨j,e,q1,q2,q⟩:=q1;subst e;cases r1 with
 |cons r rr=>
  cases rr;obtain⟨t,rfl⟩:=r;exact call_range_1 (sU I1 ⋯ ⋯ q1 q2 (by simpa using q))
theorem gW{a b:Expr}{ta:TA}{p pos:Pos}(hg:Gl X "range")(hm:X.mg "range"=none)(ha:PA X [a,b] ta)(hs:autoParam (starEach [a,b] X.env=[(false,eval a X.env),(false,eval b X.env)]) zz0._auto_1)(hs2:autoParam (starEach [b] X.env=[(false,eval b X.env)]) zz0._auto_1) :
  PI X tg (.Call (.Name "range" p) [a,b] [] pos) (AJ ta):=by
 intro pins s σ H R I h;refine Call_ (dL I hg hm boot_range (PyProof.Rows.callWith_type1 (bK (ha pos pins s σ H _ I h) λus s1 ⟨vs,H1,I1,r1,q1⟩=>?_) (by rw[hs,hs2]) (by rw[hs2];rfl)));obtain⟨i,j,e,⟨q1,q2,q3,q4⟩,q⟩:=q1;subst e;cases r1 with
 |cons r rr=>
  cases rr with
  |cons r' rr=>
   cases rr;obtain⟨t,rfl⟩:=r;obtain⟨t',rfl⟩:=r';exact call_range_2 (sU I1 q1 q2 q3 q4 q)
noncomputable def D4(wi:TI)(g:TG)(tb:TS):TS:=λD σ H=>wi σ H λJ H1=>∃W:Nat->Nat->St->Hp->Prop,(∃m,W 0 m σ H1)/\∀i m σ H,W i m σ H ->
 (J.stop i H/\D.nx σ H)\/(J.go i H/\∃N:St->Hp->Prop,(∀σ' H',N σ' H'->∃m',m'<m/\W (i+1) m' σ' H')/\∀x H',J.yld i H x H'->g x σ H' λσ2 H2=>tb {D with nx:=N,ct:=N,bk:=D.nx} σ2 H2)
noncomputable def nP(fp:Ib)(h:Heap):List (Addr×Obj):=fp.filterMap λb=>(h.get? b).map λo=>(b,o)
theorem ip{fp:Ib}{h:Heap}{b:Addr}{o:Obj}(hb:b∈fp)(e:h.get? b=some o):(b,o)∈nP fp h:=List.mem_filterMap.mpr ⟨b,hb,by rw[e];rfl⟩
theorem xt{fp:Ib}{h:Heap}{p:Addr×Obj}(hp:p∈nP fp h):p.1∈fp/\h.get? p.1=some p.2:=by
 obtain⟨b,hb,e⟩:=List.mem_filterMap.mp hp;cases q:h.get? b with
 |none=>rw[q]at e;cases e
 |some o=>
  rw[q]at e;have e':(b,o)=p:=Option.some.inj e;subst e';exact⟨hb,q⟩
theorem Inv.pinned{pins:HX}{σ:St}{H:Hp}{s:HZ}{fp:Ib}(I:Inv X pins σ H s)(hf:∀b∈fp,mI X pins H b)(ho:∀b∈fp,∃o,s.heap.get? b=some o/\∀v,o.data≠.cell v):Inv X (pins++nP fp s.heap) σ H s:=
 I.pins_of λp hp=>(Hg.mp hp).elim (λz=>I.pin p (List.mem_append_right _ z)) λz=>by
  obtain⟨hb,e⟩:=xt z;obtain⟨f0,f1,f2,_⟩:=hf p.1 hb;obtain⟨o,e',d⟩:=ho p.1 hb;rw[e]at e';cases e'
  exact⟨e,f0,f1,f2,d⟩
theorem Inv.unpinned{pins pl:HX}{σ:St}{H:Hp}{s:HZ}(I:Inv X (pins++pl) σ H s):Inv X pins σ H s:=I.pins_of λp hp=>I.pin p (List.mem_append_right _ (List.mem_append_left _ hp))
theorem B'{iter:Expr}{body:List Stmt}{wi:TI}{g:TG}{tb:TS}{pos:Pos}(hp:PassesOwn (model X.prog X.w) X.A X.env X.xe)(hc:X.calm=true)(hi:PI X tg iter wi)(hg:PG X tg g)(hb:ut X body tb)
  (hs:autoParam (∀x,foldedSetIterable iter X.env x=pure x) zz4._auto_1):PS X (.For tg iter body [] pos) (D4 wi g tb):=by
 intro pins s σ H D I h;refine wpAny_For (bK (hi pins s σ H _ I h) λv s1 h1=>bK h1 λitv s2 h2=>?_) hs;obtain⟨it,fp,tn,J,H2,e,I2,T,st2,f2,W,⟨m0,w0⟩,turn⟩:=h2;subst e
 -- what stays true of the iterator's objects through the loop
 have stat:∀{H':Hp},(∀b∈fp,H' b=none)->∀b∈fp,mI X pins H' b:=λhn b hb=>⟨hn b hb,(f2 b hb).2⟩;refine codeAny_forLoop_any (λn s'=>∃i σ' H',Inv X pins σ' H' s'/\tn i s'.heap/\(∀b∈fp,H' b=none)/\W i n σ' H') ?_ m0 ⟨0,σ,H2,I2,st2,λb hb=>(f2 b hb).1,w0⟩;rintro n s3 ⟨i,σ3,H3,I3,st3,fr3,w3⟩;rcases turn i n σ3 H3 w3 with⟨stop,qn⟩ | ⟨go,N,hN,step⟩
 ·refine wpAny_passesOwn hp (bK (T.done X rfl rfl rfl hc i pins s3 σ3 H3 X.xe I3 (stat fr3) st3 stop) λr s4 ⟨hr,I4⟩=>?_)
  subst hr;exact wpAny_execs_nil ⟨σ3,H3,I4,qn⟩
 ·refine wpAny_passesOwn hp (bK (T.item X rfl rfl rfl hc i pins s3 σ3 H3 X.xe I3 (stat fr3) st3 go) λr s4 ⟨u,hr,h4⟩=>?_)
  subst hr;refine wpAny_passesOwn hp (bK h4 λ_ s5 ⟨x,H5,I5,r5,y5,st5,fr5⟩=>?_);have I5':=I5.pinned (stat fr5) (T.obj _ _ st5);refine wpAny_passesOwn hp (bK (hg _ s5 σ3 H5 x u _ I5' r5 (step x H5 y5)) λ_ s6 ⟨σ6,H6,I6,q6⟩=>?_);refine wpAny_passesOwn hp (bK (hb _ s6 σ6 H6 _ I6 q6) λf s7 q7=>?_);have again:∀{σ7:St} {H7:Hp},Inv X (pins++nP fp s5.heap) σ7 H7 s7->N σ7 H7->∃m,m<n/\∃i σ' H',Inv X pins σ' H' s7/\tn i s7.heap/\(∀b∈fp,H' b=none)/\W i m σ' H':=fun{σ7 H7} I7 n7=>by
   obtain⟨m',hm,w7⟩:=hN σ7 H7 n7;refine⟨m',hm,i+1,σ7,H7,I7.unpinned,T.keep _ _ _ st5 λb hb o e=>(I7.pin (b,o) (List.mem_append_right _ (List.mem_append_right _ (ip hb e)))).1,λb hb=>?_,w7⟩;obtain⟨o,e,d⟩:=T.obj _ _ st5 b hb;exact(I7.pin (b,o) (List.mem_append_right _ (List.mem_append_right _ (ip hb e)))).2.1
  cases f with
  |next=>obtain⟨σ7,H7,I7,n7⟩:=q7;exact again I7 n7
  |cont=>obtain⟨σ7,H7,I7,n7⟩:=q7;exact again I7 n7
  |brk=>obtain⟨σ7,H7,I7,q7⟩:=q7;exact⟨σ7,H7,I7.unpinned,q7⟩
  |ret v=>obtain⟨x7,σ7,H7,I7,r7,q7⟩:=q7;exact⟨x7,σ7,H7,I7.unpinned,r7,q7⟩
end
theorem zk{K:HW}{a:Addr}{xs:List V}{g:TG}{tb:TS}{D:iJ}{σ:St}{H:Hp}(Pv:Nat->St->Hp->Prop)(h0:Pv 0 σ H)(hl:∀i σ H,i<=xs.length->Pv i σ H->aN K H a xs)
  (hs:∀i x σ H,xs[i]?=some x->Pv i σ H->g x σ H λσ2 H2=>tb {D with nx:=Pv (i+1),ct:=Pv (i+1),bk:=D.nx} σ2 H2) (hd:∀σ H,Pv xs.length σ H->D.nx σ H) :
  ∃W:Nat->Nat->St->Hp->Prop,(∃m,W 0 m σ H)/\∀i m σ H,W i m σ H ->
   ((zz K a).stop i H/\D.nx σ H)\/((zz K a).go i H/\∃N:St->Hp->Prop,(∀σ' H',N σ' H'->∃m',m'<m/\W (i+1) m' σ' H')/\∀x H',(zz K a).yld i H x H'->g x σ H' λσ2 H2=>tb {D with nx:=N,ct:=N,bk:=D.nx} σ2 H2):=by
 refine⟨λi m σ H=>m=xs.length-i/\i<=xs.length/\Pv i σ H,⟨xs.length,by simp,Hs _,h0⟩,?_⟩;rintro i m σ H ⟨rfl,hi,p⟩;have q:=hl i σ H hi p
 by_cases hlt:i<xs.length
 ·refine .inr ⟨⟨xs,xs[i],q,by simp[hlt]⟩,Pv (i+1),λσ' H' p'=>⟨xs.length-(i+1),⋯,rfl,hlt,p'⟩,λx H' y=>?_⟩
  obtain⟨e,y⟩:=y;subst e;exact hs i x σ _ (y xs q) p
 ·have e:i=xs.length:=by omega
  subst e;exact .inl ⟨⟨xs,q,Hr _⟩,hd σ H p⟩
theorem Bc{K:HW}{a:Addr}{xs:List V}{g:TG}{tb:TS}{D:iJ}{σ:St}{H:Hp}(Pv:Nat->St->Hp->Prop)(h0:Pv 0 σ H)(hl:∀i σ H,i<=xs.length->Pv i σ H->bx K H a xs)
  (hs:∀i x σ H,xs[i]?=some x->Pv i σ H->g x σ H λσ2 H2=>tb {D with nx:=Pv (i+1),ct:=Pv (i+1),bk:=D.nx} σ2 H2) (hd:∀σ H,Pv xs.length σ H->D.nx σ H) :
  ∃W:Nat->Nat->St->Hp->Prop,(∃m,W 0 m σ H)/\∀i m σ H,W i m σ H ->
   ((Do K a).stop i H/\D.nx σ H)\/((Do K a).go i H/\∃N:St->Hp->Prop,(∀σ' H',N σ' H'->∃m',m'<m/\W (i+1) m' σ' H')/\∀x H',(Do K a).yld i H x H'->g x σ H' λσ2 H2=>tb {D with nx:=N,ct:=N,bk:=D.nx} σ2 H2):=by
 refine⟨λi m σ H=>m=xs.length-i/\i<=xs.length/\Pv i σ H,⟨xs.length,by simp,Hs _,h0⟩,?_⟩;rintro i m σ H ⟨rfl,hi,p⟩;have q:=hl i σ H hi p
 by_cases hlt:i<xs.length
 ·refine .inr ⟨⟨xs,xs[i],q,by simp[hlt]⟩,Pv (i+1),λσ' H' p'=>⟨xs.length-(i+1),⋯,rfl,hlt,p'⟩,λx H' y=>?_⟩
  obtain⟨e,y⟩:=y;subst e;exact hs i x σ _ (y xs q) p
 ·have e:i=xs.length:=by omega
  subst e;exact .inl ⟨⟨xs,q,Hr _⟩,hd σ H p⟩
theorem xE{lo:Int}{n:Nat}{g:TG}{tb:TS}{D:iJ}{σ:St}{H:Hp}(Pv:Nat->St->Hp->Prop)(h0:Pv 0 σ H)
  (hs:∀i σ H,i<n->Pv i σ H->g (.int (lo+i)) σ H λσ2 H2=>tb {D with nx:=Pv (i+1),ct:=Pv (i+1),bk:=D.nx} σ2 H2) (hd:∀σ H,Pv n σ H->D.nx σ H) :
  ∃W:Nat->Nat->St->Hp->Prop,(∃m,W 0 m σ H)/\∀i m σ H,W i m σ H ->
   ((zd lo n).stop i H/\D.nx σ H)\/((zd lo n).go i H/\∃N:St->Hp->Prop,(∀σ' H',N σ' H'->∃m',m'<m/\W (i+1) m' σ' H')/\∀x H',(zd lo n).yld i H x H'->g x σ H' λσ2 H2=>tb {D with nx:=N,ct:=N,bk:=D.nx} σ2 H2):=by
 refine⟨λi m σ H=>m=n-i/\i<=n/\Pv i σ H,⟨n,by simp,Hs _,h0⟩,?_⟩;rintro i m σ H ⟨rfl,hi,p⟩
 by_cases hlt:i<n
 ·refine .inr ⟨hlt,Pv (i+1),λσ' H' p'=>⟨n-(i+1),⋯,rfl,hlt,p'⟩,λx H' y=>?_⟩
  obtain⟨e,y⟩:=y;subst e y;exact hs i σ _ hlt p
 ·have e:i=n:=by omega
  subst e;exact .inl ⟨Hr _,hd σ H p⟩
noncomputable abbrev R2:=V->V->Hp->VK->Prop
def aW(X:Cx)(f:Value->Value->Sem Value)(r:R2):Prop:=
 ∀(pins:HX) (s:HZ) (σ:St) (H:Hp) (x y:V) (v u:Value) (Q:VK),Inv X pins σ H s->ba x v->ba y u->r x y H Q ->
  wpAny (model X.prog X.w) X.A (f v u) (EP X pins σ Q) X.xe s
def Es(X:Cx)(f:Value->Sem Value)(r:V->Hp->VK->Prop):Prop:=
 ∀(pins:HX) (s:HZ) (σ:St) (H:Hp) (x:V) (v:Value) (Q:VK),Inv X pins σ H s->ba x v->r x H Q ->
  wpAny (model X.prog X.w) X.A (f v) (EP X pins σ Q) X.xe s
def ft(X:Cx)(f:Value)(r:List V->Hp->VK->Prop):Prop:=
 ∀(pins:HX) (s:HZ) (σ:St) (H:Hp) (xs:List V) (us:Ia) (Q:VK),Inv X pins σ H s->aT xs us->r xs H Q ->
  wpAny (model X.prog X.w) X.A (call f us) (EP X pins σ Q) X.xe s
noncomputable def Cf(r:R2)(ta tb:TE):TE:=λσ H Q=>ta σ H λx H1=>tb σ H1 λy H2=>r x y H2 Q
noncomputable def D9(r:V->Hp->VK->Prop)(ta:TE):TE:=λσ H Q=>ta σ H λx H1=>r x H1 Q
noncomputable def rI(C:Int->Int->Prop)(g:Int->Int->V):R2:=λx y H Q=>∃i j,x=.int i/\y=.int j/\C i j/\Q (g i j) H
noncomputable def yk(g:Int->Int->V):R2:=λx y H Q=>∃i j,x=.int i/\y=.int j/\Q (g i j) H
noncomputable def rU(g:Int->V):V->Hp->VK->Prop:=λx H Q=>∃i,x=.int i/\Q (g i) H
section
variable {X:Cx}{a b c:Expr}{ta tb tc:TE}{pos:Pos}
theorem Cq(ha:PE X a ta)(hb:PE X b tb){pins:HX}{s:HZ}{σ:St}{H:Hp}{R:V->V->Hp->Prop}(I:Inv X pins σ H s)
  (h:ta σ H λx H1=>tb σ H1 λy H2=>R x y H2) {Q:HV} {f:Value->Value->Sem Value}
  (hf:∀v u s2 x y H2,Inv X pins σ H2 s2->ba x v->ba y u->R x y H2->wpAny (model X.prog X.w) X.A (f v u) Q X.xe s2) :
  wpAny (model X.prog X.w) X.A (eval a X.env) (λv s₁=>wpAny (model X.prog X.w) X.A (eval b X.env) (λu s₂=>wpAny (model X.prog X.w) X.A (f v u) Q X.xe s₂) X.xe s₁) X.xe s:=by
 refine bK (ha pins s σ H _ I h) λv s1 ⟨x,H1,I1,r1,q1⟩=>?_;refine bK (hb pins s1 σ H1 _ I1 q1) λu s2 ⟨y,H2,I2,r2,q2⟩=>?_;exact hf v u s2 x y H2 I2 r1 r2 q2
theorem ar{op:Operator}{r:R2}(ho:aW X (binaryOp op) r)(ha:PE X a ta)(hb:PE X b tb):PE X (.BinOp a op b pos) (Cf r ta tb):=by
 intro pins s σ H Q I h;exact wpAny_BinOp (Cq ha hb I h λv u s2 x y H2 I2 rx ry q=>ho pins s2 σ H2 x y v u Q I2 rx ry q)
theorem B6{op:UnaryOp}{r:V->Hp->VK->Prop}(ho:Es X (unaryOp op) r)(ha:PE X a ta):PE X (.UnaryOp op a pos) (D9 r ta):=by
 intro pins s σ H Q I h;exact UnaryOp_ (bK (ha pins s σ H _ I h) λv s1 ⟨x,H1,I1,r1,q1⟩=>ho pins s1 σ H1 x v Q I1 r1 q1)
theorem D_{f:Value->Value->Sem Value}{C:Int->Int->Prop}{g:Int->Int->Int}
  (rule:∀(i j:Int) (t u:Tok) (s:HZ) (Q:HV) (E:HV),C i j->Q (.int (g i j) s.toks) {s with toks:=s.toks+1}->wpAny (model X.prog X.w) X.A (f (.int i t) (.int j u)) Q E s) :
  aW X f (rI C λi j=>.int (g i j)):=by
 intro pins s σ H x y v u Q I rx ry h;obtain⟨i,j,rfl,rfl,hc,q⟩:=h;obtain⟨t,rfl⟩:=rx;obtain⟨t',rfl⟩:=ry;exact rule i j t t' s _ _ hc ⟨.int (g i j),H,I.tok _,⟨_,rfl⟩,q⟩
theorem Dp{f:Value->Value->Sem Value}{g:Int->Int->Int}
  (rule:∀(i j:Int) (t u:Tok) (s:HZ) (Q:HV) (E:HV),Q (.int (g i j) s.toks) {s with toks:=s.toks+1}->wpAny (model X.prog X.w) X.A (f (.int i t) (.int j u)) Q E s) :
  aW X f (yk λi j=>.int (g i j)):=by
 intro pins s σ H x y v u Q I rx ry h;obtain⟨i,j,rfl,rfl,q⟩:=h;obtain⟨t,rfl⟩:=rx;obtain⟨t',rfl⟩:=ry;exact rule i j t t' s _ _ ⟨.int (g i j),H,I.tok _,⟨_,rfl⟩,q⟩
theorem AR{f:Value->Value->Sem Value}{g:Int->Int->Bool}
  (rule:∀(i j:Int) (t u:Tok) (s:HZ) (Q:HV) (E:HV),Q (.bool (g i j)) s->wpAny (model X.prog X.w) X.A (f (.int i t) (.int j u)) Q E s) :
  aW X f (yk λi j=>.bl (g i j)):=by
 intro pins s σ H x y v u Q I rx ry h;obtain⟨i,j,rfl,rfl,q⟩:=h;obtain⟨t,rfl⟩:=rx;obtain⟨t',rfl⟩:=ry;exact rule i j t t' s _ _ ⟨.bl (g i j),H,I,rfl,q⟩
def yD(i j:Int):Prop:=(-(2 ^ 64)<i/\i<2 ^ 64)\/(-(2 ^ 64)<j/\j<2 ^ 64)
theorem yD.ok{i j:Int}(h:yD i j):IntMulOk i j:=by
 rcases h with⟨h1,h2⟩ | ⟨h1,h2⟩
 ·exact .of_left (intBits_le_64 h1 h2)
 ·exact .of_right (intBits_le_64 h1 h2)
theorem bN:aW X (binaryOp .Add) (yk λi j=>.int (i+j)):=Dp λ_ _ _ _ _ _ _ q=>add_int q
theorem dc:aW X (binaryOp .Sub) (yk λi j=>.int (i-j)):=Dp λ_ _ _ _ _ _ _ q=>sub_int q
theorem dN:aW X (binaryOp .Mult) (rI yD λi j=>.int (i*j)):=D_ λ_ _ _ _ _ _ _ hc q=>mul_int q hc.ok
theorem aQ:aW X (binaryOp .Mod) (rI (λ_ j=>0<j) λi j=>.int (i%j)):=D_ λi j _ _ _ _ _ hc q=>by
 have h1:(0:Int)<j:=hc;exact mod_int' ⋯ (by rw[Int.fmod_eq_emod_of_nonneg i ⋯];exact q)
theorem GX{f:Value->Sem Value}{g:Int->Int}
  (rule:∀(i:Int) (t:Tok) (s:HZ) (Q:HV) (E:HV),Q (.int (g i) s.toks) {s with toks:=s.toks+1}->wpAny (model X.prog X.w) X.A (f (.int i t)) Q E s) :
  Es X f (rU λi=>.int (g i)):=by
 intro pins s σ H x v Q I rx h;obtain⟨i,rfl,q⟩:=h;obtain⟨t,rfl⟩:=rx;exact rule i t s _ _ ⟨.int (g i),H,I.tok _,⟨_,rfl⟩,q⟩
theorem z_:Es X (unaryOp .USub) (rU λi=>.int (-i)):=GX λ_ _ _ _ _ q=>neg_int q
end
noncomputable def Bv:V->V->Bool
 | .non,.non=>true | .non,.int _=>true | .int _,.non=>true | .non,.bl _=>true | .bl _,.non=>true | .non,.str _=>true | .str _,.non=>true
 | .int _,.int _=>true | .bl _,.bl _=>true | .str _,.str _=>true | .byt _,.byt _=>true
 | .int _,.str _=>true | .str _,.int _=>true | .bl _,.str _=>true | .str _,.bl _=>true
 |_,_=>false
noncomputable def Ev:R2:=λx y H Q=>Bv x y=true/\Q (.bl (decide (x=y))) H
noncomputable def D':R2:=λx y H Q=>Bv x y=true/\Q (.bl (!decide (x=y))) H
theorem wF{i j:Int}:decide (V.int i=V.int j)=(i==j):=by
 rw[Bool.eq_iff_iff];simp
theorem y8{i j:Bool}:decide (V.bl i=V.bl j)=(i==j):=by
 rw[Bool.eq_iff_iff];simp
theorem we{i j:Str}:decide (V.str i=V.str j)=(i==j):=by
 rw[Bool.eq_iff_iff];simp
theorem wm{i j:Array UInt8}:decide (V.byt i=V.byt j)=(i.toList==j.toList):=by
 rw[Bool.eq_iff_iff];cases i;cases j;simp
section
variable {X:Cx}{a b c:Expr}{ta tb tc:TE}{pos:Pos}
theorem bh{pins:HX}{σ:St}{H:Hp}{s:HZ}{Q:VK}{k k':Bool}(I:Inv X pins σ H s)(q:Q (.bl k) H)(e:k=k'):EP X pins σ Q (.bool k') s:=by
 subst e;exact⟨.bl k,H,I,rfl,q⟩
theorem cI:aW X (compareOp .Eq) Ev:=by
 intro pins s σ H x y v u Q I rx ry h;obtain⟨hs,q⟩:=h;cases x with
 |non=>
  cases rx;cases y with
  |non=>cases ry;exact PySem.EqNone.eq_none_none (bh I q (by simp))
  |bl j=>cases ry;exact PySem.EqNone.eq_none_bool (bh I q (by simp))
  |int j=>obtain⟨t',rfl⟩:=ry;exact PySem.EqNone.eq_none_int (bh I q (by simp))
  |str j=>obtain⟨t',rfl⟩:=ry;exact PySem.EqNone.eq_none_str (bh I q (by simp))
  |_=>exact absurd (show false=true from hs) Ht
 |bl i=>
  cases rx;cases y with
  |non=>cases ry;exact PySem.EqNone.eq_bool_none (bh I q (by simp))
  |bl j=>cases ry;exact eq_bool (bh I q y8)
  |str j=>obtain⟨t',rfl⟩:=ry;exact PySem.EqMixed.eq_bool_str (bh I q (by simp))
  |_=>exact absurd (show false=true from hs) Ht
 |int i=>
  obtain⟨t,rfl⟩:=rx;cases y with
  |non=>cases ry;exact PySem.EqNone.eq_int_none (bh I q (by simp))
  |int j=>obtain⟨t',rfl⟩:=ry;exact eq_int (bh I q wF)
  |str j=>obtain⟨t',rfl⟩:=ry;exact PySem.EqMixed.eq_int_str (bh I q (by simp))
  |_=>exact absurd (show false=true from hs) Ht
 |str i=>
  obtain⟨t,rfl⟩:=rx;cases y with
  |non=>cases ry;exact PySem.EqNone.eq_str_none (bh I q (by simp))
  |bl j=>cases ry;exact PySem.EqMixed.eq_str_bool (bh I q (by simp))
  |int j=>obtain⟨t',rfl⟩:=ry;exact PySem.EqMixed.eq_str_int (bh I q (by simp))
  |str j=>obtain⟨t',rfl⟩:=ry;exact eq_str (bh I q we)
  |_=>exact absurd (show false=true from hs) Ht
 |byt i=>
  obtain⟨t,rfl⟩:=rx;cases y with
  |byt j=>obtain⟨t',rfl⟩:=ry;exact PySem.W.eq_bytes (bh I q wm)
  |_=>exact absurd (show false=true from hs) Ht
 |_=>cases y<;>exact absurd (show false=true from hs) Ht
theorem sR:aW X (compareOp .NotEq) D':=by
 intro pins s σ H x y v u Q I rx ry h;obtain⟨hs,q⟩:=h;cases x with
 |non=>
  cases rx;cases y with
  |non=>cases ry;exact PySem.EqNone.ne_none_none (bh I q (by simp))
  |bl j=>cases ry;exact PySem.EqNone.ne_none_bool (bh I q (by simp))
  |int j=>obtain⟨t',rfl⟩:=ry;exact PySem.EqNone.ne_none_int (bh I q (by simp))
  |str j=>obtain⟨t',rfl⟩:=ry;exact PySem.EqNone.ne_none_str (bh I q (by simp))
  |_=>exact absurd (show false=true from hs) Ht
 |bl i=>
  cases rx;cases y with
  |non=>cases ry;exact PySem.EqNone.ne_bool_none (bh I q (by simp))
  |bl j=>cases ry;exact ne_bool (bh I q (congrArg not y8))
  |str j=>obtain⟨t',rfl⟩:=ry;exact PySem.EqMixed.ne_bool_str (bh I q (by simp))
  |_=>exact absurd (show false=true from hs) Ht
 |int i=>
  obtain⟨t,rfl⟩:=rx;cases y with
  |non=>cases ry;exact PySem.EqNone.ne_int_none (bh I q (by simp))
  |int j=>obtain⟨t',rfl⟩:=ry;exact ne_int (bh I q (congrArg not wF))
  |str j=>obtain⟨t',rfl⟩:=ry;exact PySem.EqMixed.ne_int_str (bh I q (by simp))
  |_=>exact absurd (show false=true from hs) Ht
 |str i=>
  obtain⟨t,rfl⟩:=rx;cases y with
  |non=>cases ry;exact PySem.EqNone.ne_str_none (bh I q (by simp))
  |bl j=>cases ry;exact PySem.EqMixed.ne_str_bool (bh I q (by simp))
  |int j=>obtain⟨t',rfl⟩:=ry;exact PySem.EqMixed.ne_str_int (bh I q (by simp))
  |str j=>obtain⟨t',rfl⟩:=ry;exact ne_str (bh I q (congrArg not we))
  |_=>exact absurd (show false=true from hs) Ht
 |byt i=>
  obtain⟨t,rfl⟩:=rx;cases y with
  |byt j=>obtain⟨t',rfl⟩:=ry;exact PySem.W.ne_bytes (bh I q (congrArg not wm))
  |_=>exact absurd (show false=true from hs) Ht
 |_=>cases y<;>exact absurd (show false=true from hs) Ht
theorem qd:aW X (compareOp .Lt) (yk λi j=>.bl (decide (i<j))):=AR λ_ _ _ _ _ _ _ q=>lt_int q
theorem nR:aW X (compareOp .LtE) (yk λi j=>.bl (decide (i<=j))):=AR λ_ _ _ _ _ _ _ q=>le_int q
theorem ju:aW X (compareOp .Gt) (yk λi j=>.bl (decide (j<i))):=AR λ_ _ _ _ _ _ _ q=>gt_int q
theorem BV:aW X (compareOp .GtE) (yk λi j=>.bl (decide (j<=i))):=AR λ_ _ _ _ _ _ _ q=>ge_int q
theorem xb:aW X (compareOp .In) (λx y H Q=>∃i j,x=.str i/\y=.str j/\Q (.bl (!(Builtin.Str.occurrences j i 0 j.length 1).isEmpty)) H):=by
 intro pins s σ H x y v u Q I rx ry h;obtain⟨i,j,rfl,rfl,q⟩:=h;obtain⟨t,rfl⟩:=rx;obtain⟨t',rfl⟩:=ry;exact in_str (bh I q rfl)
theorem vw:aW X (compareOp .Is) (λx y H Q=>y=.non/\Q (.bl (decide (x=.non))) H):=by
 intro pins s σ H x y v u Q I rx ry h;obtain⟨rfl,q⟩:=h;cases ry;refine is_none_gen (bh I q ?_);cases x<;>first
  | (cases rx;rfl)
  | (obtain⟨t,rfl⟩:=rx;rfl)
theorem Bb:aW X (compareOp .IsNot) (λx y H Q=>y=.non/\Q (.bl (!decide (x=.non))) H):=by
 intro pins s σ H x y v u Q I rx ry h;obtain⟨rfl,q⟩:=h;cases ry;refine isnot_none_gen (bh I q ?_);cases x<;>first
  | (cases rx;rfl)
  | (obtain⟨t,rfl⟩:=rx;rfl)
theorem qL:aW X (compareOp .NotIn) (λx y H Q=>∃i j,x=.str i/\y=.str j/\Q (.bl (!(!(Builtin.Str.occurrences j i 0 j.length 1).isEmpty))) H):=by
 intro pins s σ H x y v u Q I rx ry h;obtain⟨i,j,rfl,rfl,q⟩:=h;obtain⟨t,rfl⟩:=rx;obtain⟨t',rfl⟩:=ry;exact notIn_str (bh I q rfl)
theorem aI(b:Expr){op:CmpOp}(h:autoParam (op≠.In) zz1._auto_1)(h2:autoParam (op≠.NotIn) zz1._auto_1):behindInMarks op b=false:=by
 have e1:(op==CmpOp.In)=false:=by cases op<;>first | rfl | exact absurd rfl h
 have e2:(op==CmpOp.NotIn)=false:=by cases op<;>first | rfl | exact absurd rfl h2
 cases b<;>simp[behindInMarks,e1,e2]
theorem hV{op:CmpOp}{r:R2}(ho:aW X (compareOp op) r)(ha:PE X a ta)(hb:PE X b tb)(hm:behindInMarks op b=false):PE X (.Compare a [op] [b] pos) (Cf r ta tb):=by
 intro pins s σ H Q I h;exact wpAny_Compare1 (Cq ha hb I h λv u s2 x y H2 I2 rx ry q=>ho pins s2 σ H2 x y v u Q I2 rx ry q) hm
noncomputable def wc(t:TE):TT:=λσ H Q=>t σ H λx H'=>∃k,x=.bl k/\Q k H'
theorem aE{op:CmpOp}{r:R2}(ho:aW X (compareOp op) r)(ha:PE X a ta)(hb:PE X b tb)(hm:behindInMarks op b=false):PT X (.Compare a [op] [b] pos) (wc (Cf r ta tb)):=by
 intro pins s σ H Q I h;refine wpAny_isTrue_Compare1 (bK (ha pins s σ H _ I h) λv s1 ⟨x,H1,I1,r1,q1⟩=>bK (hb pins s1 σ H1 _ I1 q1) λu s2 ⟨y,H2,I2,r2,q2⟩=>
  bK (ho pins s2 σ H2 x y v u _ I2 r1 r2 q2) λc s3 ⟨z,H3,I3,r3,k,e,q3⟩=>?_) hm
 subst e;cases r3;exact wpAny_truthy_bool ⟨H3,I3,q3⟩
noncomputable def vX(r r':R2)(ta tb tc:TE):TE:=λσ H Q=>ta σ H λx H1=>tb σ H1 λy H2=>r x y H2 λz H3=>∃k,z=.bl k /\
 (if k=true then tc σ H3 λw' H4=>r' y w' H4 Q else Q (.bl false) H3)
theorem tH{op op':CmpOp}{r r':R2}(ho:aW X (compareOp op) r)(ho':aW X (compareOp op') r')(ha:PE X a ta)(hb:PE X b tb)(hc:PE X c tc)
  (hm:lastMarks [op,op'] [b,c]=false:=by with_unfolding_all rfl):PE X (.Compare a [op,op'] [b,c] pos) (vX r r' ta tb tc):=by
 intro pins s σ H Q I h;refine Compare_chain (bK (ha pins s σ H _ I h) λv s1 ⟨x,H1,I1,r1,q1⟩=>chain_link (bK (hb pins s1 σ H1 _ I1 q1) λu s2 ⟨y,H2,I2,r2,q2⟩=>
  bK (ho pins s2 σ H2 x y v u _ I2 r1 r2 q2) λd s3 ⟨z,H3,I3,r3,k,e,q3⟩=>?_)) hm
 subst e;cases r3;refine wpAny_truthy_bool ?_;cases k with
 |false=>exact ite_ff ⟨.bl false,H3,I3,rfl,q3⟩
 |true=>exact ite_tt (chain_last (bK (hc pins s3 σ H3 _ I3 q3) λw' s4 ⟨z',H4,I4,r4,q4⟩=>ho' pins s4 σ H4 y z' u w' Q I4 r2 r4 q4))
theorem m7:(sizeLine:Nat)<2 ^ 63:=by rw[sizeLine_eq];decide
theorem fD:aW X (binaryOp .Add) (λx y H Q=>∃i j,x=.str i/\y=.str j/\i.length+j.length<=sizeLine/\Q (.str (i++j)) H):=by
 intro pins s σ H x y v u Q I rx ry h;obtain⟨i,j,rfl,rfl,hz,q⟩:=h;obtain⟨t,rfl⟩:=rx;obtain⟨t',rfl⟩:=ry;exact add_str (λt' tk=>⟨.str (i++j),H,I.tok _,⟨_,rfl⟩,q⟩) hz
theorem nr{x:V}{us:Ia}(r:aT [x] us):∃u,us=[u]/\ba x u:=by
 cases r with
 |cons r1 r2=>cases r2;exact⟨_,rfl,r1⟩
theorem DK{x y:V}{us:Ia}(r:aT [x,y] us):∃u w',us=[u,w']/\ba x u/\ba y w':=by
 cases r with
 |cons r1 r2=>
  cases r2 with
  |cons r3 r4=>cases r4;exact⟨_,_,rfl,r1,r3⟩
end
structure uU(h:Heap)(x dx C:Addr)(mA:Ic):Prop where
 obj:h.get? x=some (PySem.W.instObj C dx)
 ns:h.Ns1 dx mA
 ne:dx≠x
theorem xx{h:Heap}{dx:Addr}{mA:Ic}(n:h.Ns1 dx mA):∃od,h.get? dx=some od/\∀name,PySem.W.lookIn name od=some (mA name):=by
 obtain⟨o,es,ep,ho,hd,hk,_,hm⟩:=n;refine⟨o,ho,λname=>?_⟩;have e:=hm name;unfold nsFind findBy at e;rw[<- Array.find?_toList]at e;unfold PySem.W.lookIn;rw[hd];dsimp only
 split
 ·rename_i y q
  rw[q]at e;exact congrArg some e
 ·rename_i q
  rw[q]at e;have a:es.toList.any (·.refKey)=false:=by
   rw[List.any_eq_false];intro y hy;obtain⟨z,t,hkey⟩:=hk y (Array.mem_toList_iff.mp hy);simp[DictEntry.refKey,hkey]
  have a':¬ es.toList.any (·.refKey)=true:=by rw[a];exact Ht
  rw[if_neg a'];exact congrArg some e
theorem uU.look{h:Heap}{x dx C:Addr}{mA:Ic}(I:uU h x dx C mA):∃od,PySem.W.InstAt h x (PySem.W.instObj C dx) C (some od)/\∀name,PySem.W.lookIn name od=some (mA name):=
 let ⟨od,ho,hl⟩:=xx I.ns
 ⟨od,⟨I.obj,rfl,rfl,ho⟩,hl⟩
section
variable {prog:Ig}{w:Ij}{A:Ii}{E:HV}{s:HZ}{K:HW}{x dx C f:Addr}{mA:Ic}{name:Str}{v:Value}
theorem Bf{expr:Bool}{Q:HV}(X:K.In s.heap)(I:uU s.heap x dx C mA)(hg:PySem.W.plainGet K C name=true)(hh:PySem.W.hasDictIn K C=true)
  (ha:PySem.W.findIn K (.ref C) name=some none) (hv:mA name=some v) (hv':PySem.W.handedIn v=true) (h:Q v {s with toks:=s.toks+1}) :
  wpAny (model prog w) A (getAttr (.ref x) name expr) Q E s:=by
 obtain⟨od,J,hl⟩:=I.look;exact PySem.W.get_value X J (PySem.W.plainGet_of hg).1 (PySem.W.findObj_own hh ha rfl (by rw[hl,hv])) hv' h
theorem Ak{pl:Sem Bool}{Q:Value×List Value->Shared->Prop}(X:K.In s.heap)(I:uU s.heap x dx C mA)(hg:PySem.W.plainGet K C name=true)
  (hf:PySem.W.findIn K (.ref C) name=some (some (.ref f))) (ht:PySem.W.isFn K (.ref f)=true) (hv:mA name=none) (h:Q (.ref f,[.ref x]) s) :
  wpAny (model prog w) A (getMethod (.ref x) name pl) Q E s:=by
 obtain⟨od,J,hl⟩:=I.look;exact PySem.W.method_fn X J (PySem.W.plainGet_of hg).1 (PySem.W.plainGet_of hg).2 hf (beq_iff_eq.mp ht) (by show(PySem.W.lookIn name od).map (·.isSome)=some false;rw[hl,hv];rfl) h
theorem AV{ns:Ih}{Q:Unit->Shared->Prop}(X:K.In s.heap)(I:uU s.heap x dx C mA)
  (hs:PySem.W.findIn K (.ref C) "__setattr__"=some (some (.builtin "object.__setattr__"))) (hp:PySem.W.plainOver K C=true) (ht:PySem.W.takerIn K C name=some none) (hh:PySem.W.hasDictIn K C=true)
  (hw:PySem.Within mA ns) (hsz:ns.length<=sizeLine)
  (h:∀h',uU h' x dx C (λy=>if y=name then some v else mA y)->Heap.SameBut dx s.heap h'->Q () {s with heap:=h',toks:=s.toks+2}) :
  wpAny (model prog w) A (setAttr (.ref x) name v) Q E s:=by
 obtain⟨od,J,hl⟩:=I.look;refine PySem.W.set_plain X J hs (PySem.W.osa_open (s:={s with toks:=s.toks+1}) (r:=none) X J hp ht λb=>?_);obtain⟨cd,hc,hd'⟩:=PySem.W.any_some hh;have hx:s.heap.get? x=some ⟨.ref C,some dx,.plain,#[]⟩:=I.obj;refine wpAny_bind (wpAny_pure (wpAny_bind (wpAny_bind (wpAny_loadPart hx (wpAny_bind (PySem.W.Looks.here (s:={s with toks:=s.toks+1}) (PySem.W.looks_clsIn X hc) ?_))))));rw[hd'];refine wpAny_pure (a:=some dx) (wpAny_bind (wpAny_pure (wpAny_bind ?_)));refine wpAny_nsSet1 (s:={s with toks:=s.toks+1}) I.ns λh' hn2 hs2=>?_;obtain⟨oD,esD,epD,hoD,hdD,hcD⟩:=hn2.count (PySem.Within.cons name v hw);refine wpAny_bind (wpAny_lookBehind hoD (by rw[hdD];exact pastItsLine_dict (Hy hcD (by rw[He];omega))) ?_);exact wpAny_pure (h _ ⟨(hs2.2 _ (Ne.symm I.ne)).trans I.obj,hn2,I.ne⟩ hs2)
theorem yH{R:Result->Shared->Prop}{vs:Ia}{kw:List (Str×Value)}(X:K.In s.heap)(hm:PySem.W.makesIn K C=true)
  (hi:PySem.W.findIn K (.ref C) "__init__"=some (some (.ref f))) (hf:PySem.W.typeIn K (.ref f)=some (.type "function"))
  (h:codeAny (model prog w) (A.under (.builtin "type.__call__" ⟨.ref C::vs,kw⟩)) (.call (.ref f) ⟨.ref (s.heap.objs.size+1)::vs,kw⟩) (PySem.W.InitBack (s.heap.objs.size+1) R)
   {s with heap:=(s.heap.push PySem.W.emptyDict).push (PySem.W.instObj C s.heap.objs.size)}) :
  codeAny (model prog w) A (.call (.ref C) ⟨vs,kw⟩) R s:=by
 obtain⟨hh,g,d,t,os⟩:=s;exact PySem.W.make_core (PySem.W.makes_of X hm) (PySem.W.looks_findIn X hi) (λself=>PySem.W.bind_fn X self hf) (.inl rfl) h
end
noncomputable def ce(f:Str)(v:V):List (Str×V)->List (Str×V)
 | []=>[(f,v)]
 | (g,x)::r=>if g=f then(g,v)::r else(g,x)::ce f v r
theorem mr(f g:Str)(v:V):∀fs:List (Str×V),(ce f v fs).lookup g=if g=f then some v else fs.lookup g
 | []=>by
  show List.lookup g [(f,v)]=_
  by_cases h:g=f
  ·have hb:(g==f)=true:=beq_iff_eq.mpr h
   simp only[List.lookup,hb,if_pos h]
  ·have hb:(g==f)=false:=beq_eq_false_iff_ne.mpr h
   simp only[List.lookup,hb,if_neg h]
 | (k,x)::r=>by
  have ih:=mr f g v r;rw[show ce f v ((k,x)::r)=(if k=f then(k,v)::r else(k,x)::ce f v r) from rfl]
  by_cases hk:k=f
  ·rw[if_pos hk]
   by_cases h:g=k
   ·have hb:(g==k)=true:=beq_iff_eq.mpr h
    simp only[List.lookup,hb,if_pos (h.trans hk)]
   ·have hb:(g==k)=false:=beq_eq_false_iff_ne.mpr h
    simp only[List.lookup,hb,if_neg (λe:g=f=>h (e.trans hk.symm))]
  ·rw[if_neg hk]
   by_cases h:g=k
   ·have hb:(g==k)=true:=beq_iff_eq.mpr h
    simp only[List.lookup,hb,if_neg (λe:g=f=>hk (h.symm.trans e))]
   ·have hb:(g==k)=false:=beq_eq_false_iff_ne.mpr h
    simp only[List.lookup,hb];exact ih
theorem l9(f:Str)(v:V):∀fs:List (Str×V),f∈(ce f v fs).map (·.1)/\∀g,g∈fs.map (·.1)->g∈(ce f v fs).map (·.1)
 | []=>⟨by simp[ce],λg h=>by simp at h⟩
 | (k,x)::r=>by
  obtain⟨i1,i2⟩:=l9 f v r;rw[show ce f v ((k,x)::r)=(if k=f then(k,v)::r else(k,x)::ce f v r) from rfl]
  by_cases hk:k=f
  ·rw[if_pos hk]
   subst hk;exact⟨by simp,λg h=>by simpa using h⟩
  ·rw[if_neg hk]
   refine⟨?_,λg h=>?_⟩
   ·rw[Hx]
    exact Hj _ i1
   ·rw[Hx]at h ⊢
    rcases Hi.mp h with e | e
    ·exact Hi.mpr (.inl e)
    ·exact Hj _ (i2 g e)
theorem cK(f:Str)(v:V):∀fs:List (Str×V),(ce f v fs).length<=fs.length+1
 | []=>by simp[ce]
 | (k,x)::r=>by
  have ih:=cK f v r;rw[show ce f v ((k,x)::r)=(if k=f then(k,v)::r else(k,x)::ce f v r) from rfl]
  by_cases hk:k=f
  ·rw[if_pos hk,He,He];omega
  ·rw[if_neg hk,He,He];omega
theorem jo.some_of{v:V}{o:Option Value}(r:jo (some v) o):∃u,o=some u/\ba v u:=by
 cases o with
 |none=>exact(show False from r).elim
 |some u=>exact⟨u,rfl,r⟩
theorem jo.none_of{o:Option Value}(r:jo none o):o=none:=by
 cases o with
 |none=>rfl
 |some u=>exact(show False from r).elim
theorem xC{v:V}{u:Value}(r:ba v u):PySem.W.handedIn u=true:=by
 cases v with
 |non=>cases(show u=Value.none from r);rfl
 |bl b=>cases(show u=Value.bool b from r);rfl
 |int i=>obtain⟨t,e⟩:=(show ∃t,u=Value.int i t from r);cases e;rfl
 |str x=>obtain⟨t,e⟩:=(show ∃t,u=Value.str x t from r);cases e;rfl
 |byt b=>obtain⟨t,e⟩:=(show ∃t,u=Value.bytes b t from r);cases e;rfl
 |flt b=>obtain⟨t,e⟩:=(show ∃t,u=Value.float b t from r);cases e;rfl
 |ref a=>cases(show u=Value.ref a from r);rfl
 |ty n=>cases(show u=Value.type n from r);rfl
section
variable {P:Ig}{w:Ij}{H H':Hp}{h h':Heap}{a C dx:Addr}{fs fs':List (Str×V)}
theorem mZ(hok:jZ P w H h)(e:H a=some (.ins C dx fs)):∃mA,uU h a dx C mA/\(∀f,jo (fs.lookup f) (mA f))/\PySem.Within mA (fs.map (·.1))/\fs.length<=1000/\H dx=some (.own a):=by
 obtain⟨d,z,ne,ob,mA,n,r,q⟩:=(show bE P w H h a (.ins C dx fs) from hok a _ e);exact⟨mA,⟨ob,n,ne⟩,r,q,z,d⟩
end
structure kS(K:HW)(C:Addr):Prop where
 pg:PySem.W.plainGet K C Str.empty=true
 hd:PySem.W.hasDictIn K C=true
 po:PySem.W.plainOver K C=true
 sa:PySem.W.findIn K (.ref C) "__setattr__"=some (some (.builtin "object.__setattr__"))
theorem kS.get{K:HW}{C:Addr}(c:kS K C)(f:Str):PySem.W.plainGet K C f=true:=c.pg
def aq(K:HW)(C:Addr)(f:Str):Prop:=PySem.W.findIn K (.ref C) f=some none
theorem aq.taker{K:HW}{C:Addr}{f:Str}(n:aq K C f):PySem.W.takerIn K C f=some none:=by
 unfold PySem.W.takerIn;rw[show PySem.W.findIn K (.ref C) f=some none from n]
 rfl
structure GZ(K:HW)(C:Addr)(f:Str)(v:V)(u:Value):Prop where
 at_:PySem.W.findIn K (.ref C) f=some (some u)
 rel:ba v u
 get:PySem.W.specialIn K u "__get__"=some none
 cp:PySem.W.copiedNames.contains f=false
structure dC(K:HW)(C:Addr)(m:Str)(f:Addr):Prop where
 at_:PySem.W.findIn K (.ref C) m=some (some (.ref f))
 fn:PySem.W.isFn K (.ref f)=true
 kp:PySem.W.keepIn K (.ref f)=true
section
variable {X:Cx}{pins:HX}{σ:St}{H:Hp}{s:HZ}{a C dx:Addr}{fs:List (Str×V)}{f:Str}{v:V}{A:Ii}{E:HV}
theorem vx{b:Bool}{Q:HV}(I:Inv X pins σ H s)(e:H a=some (.ins C dx fs))(c:kS X.K C)(n:aq X.K C f)(l:fs.lookup f=some v)
  (h:∀u s',Inv X pins σ H s'->ba v u->Q u s'):wpAny (model X.prog X.w) A (getAttr (.ref a) f b) Q E s:=by
 obtain⟨mA,O,r,_,_,_⟩:=mZ I.hok e;obtain⟨u,hu,ru⟩:=jo.some_of (v:=v) (o:=mA f) (by rw[<- l];exact r f);exact Bf I.kIn O (c.get f) c.hd n hu (xC ru) (h u _ (I.tok _) ru)
theorem fL{m:Str}{g:Addr}{pl:Sem Bool}{Q:Value×List Value->Shared->Prop}(I:Inv X pins σ H s)(e:H a=some (.ins C dx fs))(c:kS X.K C)(k:dC X.K C m g)(l:fs.lookup m=none)
  (h:Q (.ref g,[.ref a]) s):wpAny (model X.prog X.w) A (getMethod (.ref a) m pl) Q E s:=by
 obtain⟨mA,O,r,_,_,_⟩:=mZ I.hok e;have hn:mA m=none:=jo.none_of (by rw[<- l];exact r m);exact Ak I.kIn O (c.get m) k.at_ k.fn hn h
theorem uF{y:V}{u:Value}{Q:Unit->Shared->Prop}(I:Inv X pins σ H s)(e:H a=some (.ins C dx fs))(c:kS X.K C)(n:aq X.K C f)(hl:fs.length<1000)(ry:ba y u)
  (h:∀s',Inv X pins σ (au H a (.ins C dx (ce f y fs))) s'->Q () s'):wpAny (model X.prog X.w) A (setAttr (.ref a) f u) Q E s:=by
 obtain⟨mA,O,r,wi,_,ho⟩:=mZ I.hok e;have hz:(fs.map (·.1)).length<=sizeLine:=by rw[G7,sizeLine_eq];omega
 refine AV I.kIn O c.sa c.po n.taker c.hd wi hz λh' O' sb=>h _ ?_;have hd:∃o,h'.get? dx=some o:=let ⟨o,_,_,e',_⟩:=O'.ns;⟨o,e'⟩
 refine I.write (x:=a) (e:=dx) (by rw[e];exact True.intro) (.inr ho) (λb q hb z=>(sb.2 b hb).trans z) hd ?_;refine⟨by rw[ao O.ne];exact ho,?_,O.ne,O'.obj,_,O'.ns,λg=>?_,λg hg=>?_⟩
 ·have:=cK f y fs;omega
 ·show jo ((ce f y fs).lookup g) (if g=f then some u else mA g)
  rw[mr]
  by_cases q:g=f
  ·rw[if_pos q,if_pos q];exact ry
  ·rw[if_neg q,if_neg q];exact r g
 ·by_cases q:g=f
  ·rw[q];exact(l9 f y fs).1
  ·refine(l9 f y fs).2 g (wi g λz=>hg ?_)
   show(if g=f then some u else mA g)=none;rw[if_neg q];exact z
theorem Inv.made(I:Inv X pins σ H s):Inv X pins σ (au (au H s.heap.objs.size (.own (s.heap.objs.size+1))) (s.heap.objs.size+1) (.ins C s.heap.objs.size []))
  {s with heap:=(s.heap.push PySem.W.emptyDict).push (PySem.W.instObj C s.heap.objs.size)}:=by
 have e1:(s.heap.push PySem.W.emptyDict).get? s.heap.objs.size=some PySem.W.emptyDict:=Ha s.heap rfl;have e2:((s.heap.push PySem.W.emptyDict).push (PySem.W.instObj C s.heap.objs.size)).get? (s.heap.objs.size+1)=some (PySem.W.instObj C s.heap.objs.size):=by
  have:=Ha (s.heap.push PySem.W.emptyDict) (o:=PySem.W.instObj C s.heap.objs.size) rfl
  rwa [Heap.size_push]at this
 have e3:(s.heap.push PySem.W.emptyDict).Ns s.heap.objs.size (λ_=>none):=⟨PySem.W.emptyDict,#[],_,e1,rfl,(λe he=>absurd he (by simp)),λ_=>rfl⟩;have I1:=I.laid (a:=s.heap.objs.size) (o:=.own (s.heap.objs.size+1)) (h':=s.heap.push PySem.W.emptyDict) (t':=s.toks) (λb u q=>G6 _ q) (Hr _) ⟨_,e1⟩;refine I1.laid (a:=s.heap.objs.size+1) (o:=.ins C s.heap.objs.size []) (t':=s.toks) (λb u q=>G6 _ q) (Nat.le_of_eq (Heap.size_push _ _)) ?_;have ne:s.heap.objs.size≠s.heap.objs.size+1:=Hm (HA _);refine⟨by rw[ao ne,ac],Hs _,ne,e2,λ_=>none,(Heap.Ns1.of_empty e3).at λo q=>G6 _ q,λ_=>True.intro,λy hy=>absurd rfl hy⟩
theorem Bl{prog:Ig}{w:Ij}{env:Env}{e:Expr}{f:Str}{pos:Pos}{s:HZ}{Q:HV}(hb:attributeBase e f env (eval e env)=eval e env)
  (h:wpAny (model prog w) A (eval e env) (λo s₁=>wpAny (model prog w) A (getAttr o f true) Q E s₁) E s):wpAny (model prog w) A (eval (.Attribute e f pos) env) Q E s:=
 Attribute_any_ h (by rw[arm_eval_Attribute,hb])
end
noncomputable def B9(K:HW)(ta:TE)(f:Str):TE:=λσ H Q=>ta σ H λx H1=>∃a C dx fs v,x=.ref a/\H1 a=some (.ins C dx fs)/\kS K C/\aq K C f/\fs.lookup f=some v/\Q v H1
noncomputable def CB(K:HW)(ta tv:TE)(f:Str):TS:=λD σ H=>tv σ H λy H1=>ta σ H1 λx H2=>∃a C dx fs,x=.ref a/\H2 a=some (.ins C dx fs)/\kS K C/\aq K C f/\fs.length<1000 /\
 D.nx σ (au H2 a (.ins C dx (ce f y fs)))
section
variable {X:Cx}{o e value:Expr}{f:Str}{pos pos' tpos:Pos}{ta tv:TE}
theorem aV(he:PE X e ta)(hb:attributeBase e f X.env (eval e X.env)=eval e X.env):PE X (.Attribute e f pos) (B9 X.K ta f):=by
 intro pins s σ H Q I h;refine Bl hb (bK (he pins s σ H _ I h) λu s1 ⟨x,H1,I1,rx,a,C,dx,fs,v,ex,ea,c,n,l,q⟩=>?_);subst ex;obtain rfl:u=Value.ref a:=rx;exact vx I1 ea c n l λu' s2 I2 ru=>⟨v,H1,I2,ru,q⟩
theorem cM(ha:PE X o ta)(hv:PE X value tv)(hs:swapsWith value (some (.Attribute o f pos')) pos.line X.env=pure false):PS X (.Assign [.Attribute o f pos'] value pos) (CB X.K ta tv f):=by
 intro pins s σ H D I h;refine plainObj_wpAny_Assign_Attribute (bK (hv pins s σ H _ I h) λu s1 ⟨y,H1,I1,ry,q⟩=>bK (ha pins s1 σ H1 _ I1 q) λov s2 ⟨x,H2,I2,rx,a,C,dx,fs,ex,ea,c,n,l,q2⟩=>?_) hs;subst ex;obtain rfl:ov=Value.ref a:=rx;exact uF I2 ea c n l ry λs3 I3=>⟨σ,_,I3,q2⟩
theorem BW{pl:Sem Bool}{m:Str}{apos:Pos}{args:Il}{pins:HX}{s:HZ}{σ:St}{H:Hp}{Q:HV}{te:TE}(he:PE X e te)(I:Inv X pins σ H s)
  (h:te σ H λx H1=>∃a C dx fs g,x=.ref a/\H1 a=some (.ins C dx fs)/\kS X.K C/\dC X.K C m g/\fs.lookup m=none /\
   ∀s1,Inv X pins σ H1 s1->wpAny (model X.prog X.w) X.A (callWith pos (.ref g) [.ref a] (backTo pos (starEach args X.env)) (backToKw pos (keywordEach [] X.env))) Q X.xe s1)
  (ht:eval (.Call (.Attribute e m apos) args [] pos) X.env=(do
   let ov <- eval e X.env
   standAt apos.atName
   let (f,first) <- holding [ov] (getMethod ov m pl)
   callWith pos f first (backTo pos (starEach args X.env)) (backToKw pos (keywordEach [] X.env)))) :
  wpAny (model X.prog X.w) X.A (eval (.Call (.Attribute e m apos) args [] pos) X.env) Q X.xe s:=by
 refine PySem.W.methodCall_KW (pl:=pl) (bK (he pins s σ H _ I h) λu s1 ⟨x,H1,I1,rx,a,C,dx,fs,g,ex,ea,c,k,l,q⟩=>?_) ht;subst ex;obtain rfl:u=Value.ref a:=rx;exact fL I1 ea c k l (q s1 I1)
end
section
variable {X:Cx}{pins:HX}{σ:St}{H:Hp}{s:HZ}{A:Ii}{E:HV}{Q:HV}{c:Value}{b:Bool}
inductive jW(K:HW)(H:Hp):V->Value->Prop where
 |non:jW K H .non (.type "NoneType")
 |bl (x:Bool):jW K H (.bl x) (.type "bool")
 |int (i:Int):jW K H (.int i) (.type "int")
 |str (x:Str):jW K H (.str x) (.type "str")
 |flt (x:UInt64):jW K H (.flt x) (.type "float")
 |lst {a:Addr} {xs:List V} (e:H a=some (.lst xs)):jW K H (.ref a) (.type "list")
 |frz {a:Addr} {o:Obj} {xs:List V} (e:H a=some (.frz o (.lst xs))):jW K H (.ref a) (.type "list")
 |tup {a:Addr} {xs:List V} (e:H a=some (.tup xs)):jW K H (.ref a) (.type "tuple")
 |dK {a:Addr} {kvs:List (cE×V)} (e:H a=some (.dK kvs)):jW K H (.ref a) (.type "dict")
 |dT {a:Addr} {kvs:List (List cE×V)} (e:H a=some (.dT kvs)):jW K H (.ref a) (.type "dict")
 |ins {a C dx:Addr} {fs:List (Str×V)} (e:H a=some (.ins C dx fs)) (cl:kS K C) (ha:PySem.W.findIn K (.ref C) "__class__"=some (some (.builtin "object.__class__")))
   (hn:PySem.W.specialIn K (.builtin "object.__class__") "__get__"=some (some (.builtin "getset_descriptor.__get__"))) (htk:PySem.W.takesIn K (.builtin "object.__class__")=some true)
   (hm:PySem.W.mroIn K C (.type "object")=some true):jW K H (.ref a) (.ref C)
theorem xD{x:V}{u t:Value}(I:Inv X pins σ H s)(rx:ba x u)(ty:jW X.K H x t)(e:PySem.W.kitOne X.K t c=some b)(h:∀tk,Q (.bool b) {s with toks:=tk}) :
  wpAny (model X.prog X.w) A (call (.builtin "isinstance") [u,c]) Q E s:=by
 cases ty with
 |non=>cases(show u=Value.none from rx);exact PySem.W.kia_one PySem.W.kitx_none I.kIn True.intro e (λz=>nomatch z) h
 |bl y=>cases(show u=Value.bool y from rx);exact PySem.W.kia_one PySem.W.kitx_bool I.kIn True.intro e (λz=>nomatch z) h
 |int i=>obtain⟨t,q⟩:=(show ∃t,u=Value.int i t from rx);cases q;exact PySem.W.kia_one PySem.W.kitx_int I.kIn True.intro e (λz=>nomatch z) h
 |str y=>obtain⟨t,q⟩:=(show ∃t,u=Value.str y t from rx);cases q;exact PySem.W.kia_one PySem.W.kitx_str I.kIn True.intro e (λz=>nomatch z) h
 |flt y=>obtain⟨t,q⟩:=(show ∃t,u=Value.float y t from rx);cases q;exact PySem.W.kia_one PySem.W.kitx_float I.kIn True.intro e (λz=>nomatch z) h
 | @lst a xs ea=>
  cases(show u=Value.ref a from rx);obtain⟨_,_,n,_,h1⟩:=(show bE X.prog X.w H s.heap a (.lst xs) from I.hok a _ ea);exact PySem.W.kia_one PySem.W.kitx_list I.kIn ⟨_,h1,rfl⟩ e (λz=>nomatch z) h
 | @frz a ob xs ea=>
  cases(show u=Value.ref a from rx);obtain⟨_,_,_,n,_,h1⟩:=(show bE X.prog X.w H s.heap a (.frz ob (.lst xs)) from I.hok a _ ea);exact PySem.W.kia_one PySem.W.kitx_list I.kIn ⟨_,h1,rfl⟩ e (λz=>nomatch z) h
 | @tup a xs ea=>
  cases(show u=Value.ref a from rx);obtain⟨_,_,_,p⟩:=(show bE X.prog X.w H s.heap a (.tup xs) from I.hok a _ ea);obtain⟨o,h1,h2,_⟩:=p;exact PySem.W.kia_one PySem.W.kitx_tuple I.kIn ⟨o,h1,h2⟩ e (λz=>nomatch z) h
 | @dK a kvs ea=>
  cases(show u=Value.ref a from rx);obtain⟨_,_,vs,_,p⟩:=(show bE X.prog X.w H s.heap a (.dK kvs) from I.hok a _ ea);obtain⟨o,es,ep,h1,h2,_⟩:=p;exact PySem.W.kia_one PySem.W.kitx_dict I.kIn ⟨o,h1,h2.1⟩ e (λz=>nomatch z) h
 | @dT a kvs ea=>
  cases(show u=Value.ref a from rx);obtain⟨_,_,xs,_,o,es,ep,h1,h2,_⟩:=(show bE X.prog X.w H s.heap a (.dT kvs) from I.hok a _ ea);exact PySem.W.kia_one PySem.W.kitx_dict I.kIn ⟨o,h1,h2.1⟩ e (λz=>nomatch z) h
 | @ins a C dx fs ea cl ha hn htk hm=>
  cases(show u=Value.ref a from rx);obtain⟨mA,O,_⟩:=mZ I.hok ea;obtain⟨od,J,_⟩:=O.look;exact PySem.W.kia_one (PySem.W.kitx_own (cl.get _) cl.hd ha hn htk hm) I.kIn J e (λz=>nomatch z) h
end
structure cF(k:Nat)(A:Ii):Prop where
 hd:A.handled=none
 dp:A.depth+3*k+5<recursionLimit
 un:A.units+16*k+200<cLine
theorem cF.mono{j k:Nat}{A:Ii}(r:cF k A)(h:j<=k):cF j A:=⟨r.hd,by have:=r.dp;omega,by have:=r.un;omega⟩
theorem cF.deeper{k:Nat}{A:Ii}(r:cF (k+1) A)(env:Env):cF k (A.deeper env):=
 ⟨r.hd,by have:=r.dp;show A.depth+1+3*k+5<_;omega,by have:=r.un;show A.units+3+16*k+200<_;omega⟩
theorem vQ{A:Ii}{C:Addr}{us:Ia}{kw:List (Str×Value)}:(A.under (.builtin "type.__call__" ⟨.ref C::us,kw⟩)).depth=A.depth+1:=by
 first | rfl | simp[Around.under,Code.weight,Code.isCreation,Code.isGuard,Code.isCaller,Code.frames,Code.isFrame,guardIds]
theorem uP{A:Ii}{C:Addr}{us:Ia}{kw:List (Str×Value)}:(A.under (.builtin "type.__call__" ⟨.ref C::us,kw⟩)).units=A.units+1:=by
 first | rfl | simp[Around.under,Code.cUnits,Code.frames,Code.isFrame]
theorem cF.make{k:Nat}{A:Ii}(r:cF (k+1) A)(C:Addr)(us:Ia)(kw:List (Str×Value)):cF k (A.under (.builtin "type.__call__" ⟨.ref C::us,kw⟩)):=
 ⟨r.hd,by have:=r.dp;rw[vQ];omega,by have:=r.un;rw[uP];omega⟩
theorem cF.depth{k:Nat}{A:Ii}(r:cF k A):A.depth<recursionLimit:=by have:=r.dp;omega
theorem cF.units{k:Nat}{A:Ii}(r:cF k A):A.units+64<cLine:=by have:=r.un;omega
noncomputable def oZ:TA:=λ_ H Q=>Q [] H
noncomputable def j'(ta:TE)(tr:TA):TA:=λσ H Q=>ta σ H λx H1=>tr σ H1 λxs H2=>Q (x::xs) H2
section
variable {X:Cx}{e:Expr}{es:Il}{te:TE}{t:TA}{pos:Pos}
theorem ad:PA X [] oZ:=λ_ _ _ _ H Q I h=>Calls.spliced_nil ⟨[],H,I,.nil,h⟩
theorem aa(ha:PE X e te)(hr:PA X es t)(hs:autoParam (starEach (e::es) X.env=(false,eval e X.env)::starEach es X.env) zz0._auto_1):PA X (e::es) (j' te t):=by
 intro pos pins s σ H Q I h;rw[hs];show wpAny _ _ (spliced ((false,eval e X.env)::backTo pos (starEach es X.env))) _ _ s;refine Calls.spliced_cons (bK (ha pins s σ H _ I h) λu s1 ⟨x,H1,I1,r1,q1⟩=>?_);exact bK (hr pos pins s1 σ H1 _ I1 q1) λus s2 ⟨xs,H2,I2,r2,q2⟩=>⟨x::xs,H2,I2,.cons r1 r2,q2⟩
noncomputable def BQ(t:TA):TE:=λσ H Q=>t σ H λxs H1=>xs.length<=sizeLine/\∀p,H1 p=none->Q (.ref p) (au H1 p (.tup xs))
noncomputable def ze(t:TA):TE:=λσ H Q=>t σ H λxs H1=>xs.length<=sizeLine/\∀p,H1 p=none->Q (.ref p) (au H1 p (.lst xs))
theorem aY{x1}(h:PA X es t):PE X (.Tuple es x1 pos) (BQ t):=by
 intro pins s σ H Q I hq;refine wpAny_Tuple_spliced (bK (h pos pins s σ H _ I hq) λus s1 ⟨xs,H1,I1,r,z,q⟩=>⟨by rw[<- r.length];exact z,?_⟩);have hf:H1 s1.heap.objs.size=none:=I1.hok.fresh (Hr _);refine⟨.ref s1.heap.objs.size,au H1 s1.heap.objs.size (.tup xs),I1.laid (t':=s1.toks) (λb u e=>G6 _ e) (Hr _) ?_,rfl,q _ hf⟩;exact⟨z,us,r,⟨_,Ha _ rfl,rfl,_,rfl⟩⟩
theorem bq(h:PA X es t):PE X (.List es pos) (ze t):=by
 intro pins s σ H Q I hq;refine wpAny_List_spliced (bK (h pos pins s σ H _ I hq) λus s1 ⟨xs,H1,I1,r,z,q⟩=>⟨by rw[<- r.length];exact z,?_⟩);have hf:H1 s1.heap.objs.size=none:=I1.hok.fresh (Hr _);refine⟨.ref s1.heap.objs.size,au H1 s1.heap.objs.size (.lst xs),I1.laid (t':=s1.toks) (λb u e=>G6 _ e) (Hr _) ?_,rfl,q _ hf⟩;exact⟨z,us,0,r,Ha _ rfl⟩
end
noncomputable abbrev Sp:=List V->Hp->VK->XK->Prop
noncomputable abbrev j9:=List Env->Hp->Shared->XK->Value->Shared->Prop
structure tD(P:Ig)(w:Ij)(K:HW)(mg:Ic)(base:Heap)(A:Ii)(outer:List Env)(s:HZ)(H:Hp):Prop where
 frames:A.frames=some outer
 mod:Mod K mg base
 bs:∀b o,base.get? b=some o->s.heap.get? b=some o/\H b=none
 bsz:base.objs.size<=s.heap.objs.size
 funs:s.heap.FunFrames base outer
 frf:∀b∈lG outer,H b=none
 hok:jZ P w H s.heap
 bare:AllBare s.gens
def CE(outer:List Env)(P:Ig)(w:Ij)(H:Hp)(s:HZ)(Q:VK)(u:Value)(s':HZ):Prop:=
 ∃v H',s'.os=s.os/\AllBare s'.gens/\Un (lG outer) [] H H' s.heap s'.heap/\jZ P w H' s'.heap/\ba v u/\Q v H'
def CR(CX:j9)(outer:List Env)(P:Ig)(w:Ij)(H:Hp)(s:HZ)(Q:VK)(E:XK)(r:Result)(s':HZ):Prop:=
 match r with
 | .ok (.ret u)=>CE outer P w H s Q u s'
 | .ok _=>False
 | .error e=>CX outer H s E e s'
structure aZ(P:Ig)(w:Ij)(K:HW)(mg:Ic)(base:Heap)(CX:j9)(k:Nat)(f:Addr)(fd:Ie)(ps:Ih)(sp:Sp):Prop where
 len:∀vs H Q E,sp vs H Q E->vs.length=ps.length
 run:∀(A:Ii) (outer:List Env) (s:HZ) (H:Hp) (args:Args) (us:Ia) (vs:List V) (Q:VK) (E:XK),cF k A->tD P w K mg base A outer s H->BindsTo s fd args (ps.zip us)->aT vs us->sp vs H Q E ->
  codeAny (model P w) A (.call (.ref f) args) (CR CX outer P w H s Q E) s
theorem aZ.mono{P:Ig}{w:Ij}{K:HW}{mg:Ic}{base:Heap}{CX:j9}{j k:Nat}{f:Addr}{fd:Ie}{ps:Ih}{sp:Sp}(F:aZ P w K mg base CX j f fd ps sp)(h:j<=k) :
  aZ P w K mg base CX k f fd ps sp:=⟨F.len,λA outer s H args us vs Q E hr=>F.run A outer s H args us vs Q E (hr.mono h)⟩
theorem tD.make{P:Ig}{w:Ij}{K:HW}{mg:Ic}{base:Heap}{A:Ii}{outer:List Env}{s:HZ}{H:Hp}(e:tD P w K mg base A outer s H)(C:Addr)(us:Ia)(kw:List (Str×Value)) :
  tD P w K mg base (A.under (.builtin "type.__call__" ⟨.ref C::us,kw⟩)) outer s H:=⟨by first | exact e.frames | (simpa[Around.under,Code.envs,Code.isFrame,pushEnvs]using e.frames),e.mod,e.bs,e.bsz,e.funs,e.frf,e.hok,e.bare⟩
section
variable {X:Cx}{pins:HX}{σ:St}{H:Hp}{s s':HZ}
theorem Inv.env0(I:Inv X pins σ H s):tD X.prog X.w X.K X.mg X.base X.A X.stack s H:=
 ⟨I.ok.frames,I.ok.mod,I.bs,Hy I.ok.bsz I.sz,I.stack,I.stkFree,I.hok,I.bare⟩
theorem Inv.after{Q:VK}{u:Value}(I:Inv X pins σ H s)(h:CE X.stack X.prog X.w H s Q u s'):EP X pins σ Q u s':=by
 obtain⟨v,H',os,bare,un,hok,r,q⟩:=h;obtain⟨hh,g,d,t,os'⟩:=s';obtain rfl:os'=s.os:=os;exact⟨v,H',I.call (h':=hh) (g':=g) (d':=d) (t':=t) (ch:=[]) un hok bare (λb z=>absurd z (by simp)),r,q⟩
end
noncomputable def nG(sp:Sp)(dvs:List V)(E:XK)(t:TA):TE:=λσ H Q=>t σ H λvs H1=>sp (vs++dvs) H1 Q E
noncomputable def pU(C:Addr)(m:Str)(sp:Sp)(dvs:List V)(E:XK)(ta:TE)(t:TA):TE:=λσ H Q=>ta σ H λx H1=>∃a dx fs,x=.ref a/\H1 a=some (.ins C dx fs)/\fs.lookup m=none /\
 t σ H1 λvs H2=>sp (x::(vs++dvs)) H2 Q E
noncomputable def wD(C:Addr)(sp:Sp)(dvs:List V)(E:XK)(t:TA):TE:=λσ H Q=>t σ H λvs H1=>∀x dx,H1 x=none->H1 dx=none->dx≠x ->
 sp (.ref x::(vs++dvs)) (au (au H1 dx (.own x)) x (.ins C dx [])) (λv H2=>v=.non/\Q (.ref x) H2) E
def cV(K:HW)(fd:Ie)(ps:Ih)(ds:Ia):Prop:=
 ∀(s:HZ) (us:Ia),K.In s.heap->(us++ds).length=ps.length->BindsTo s fd ⟨us,[]⟩ (ps.zip (us++ds))
theorem cV.all{K:HW}{fd:Ie}{ps:Ih}(h:∀us:List Value,us.length=ps.length->bindArgs fd ⟨us,[]⟩=pure (ps.zip us)):cV K fd ps []:=λs us _ hl=>by
 rw[HB]at hl ⊢;exact .of_eq (h us hl)
def cG(CX:j9)(X:Cx)(E:XK):Prop:=∀(pins:HX) (σ:St) (H:Hp) (s:HZ) (e:Value) (s':HZ),Inv X pins σ H s->CX X.stack H s E e s'->X.xe e s'
section
variable {X:Cx}{CX:j9}{k:Nat}{f C:Addr}{fd:Ie}{ps:Ih}{sp:Sp}{dvs:List V}{ds:Ia}{E:XK}{x m:Str}{p pos apos:Pos}{e o:Expr}{es:Il}{ta:TE}{t:TA}
theorem lI{pins:HX}{σ:St}{H:Hp}{s:HZ}{Q:VK}{us:Ia}{vs:List V}(F:aZ X.prog X.w X.K X.mg X.base CX k f fd ps sp)(hr:cF k X.A)(hb:cV X.K fd ps ds)(hd:aT dvs ds)(hx:cG CX X E)
  (I:Inv X pins σ H s) (r:aT vs us) (h:sp (vs++dvs) H Q E):wpAny (model X.prog X.w) X.A (call (.ref f) us) (EP X pins σ Q) X.xe s:=by
 have r2:aT (vs++dvs) (us++ds):=r.append hd;have hl:(us++ds).length=ps.length:=by rw[<- r2.length];exact F.len _ _ _ _ h
 refine wpAny_call (codeAny_mono (F.run X.A X.stack s H ⟨us,[]⟩ (us++ds) (vs++dvs) Q E hr I.env0 (hb s us I.kIn hl) r2 h) λr s' hq=>?_);cases r with
 |error e=>exact hx pins σ H s e s' I hq
 |ok fl=>
  cases fl with
  |ret u=>exact I.after hq
  |next=>exact False.elim hq
  |brk=>exact False.elim hq
  |cont=>exact False.elim hq
theorem Bj(F:aZ X.prog X.w X.K X.mg X.base CX k f fd ps sp)(hr:cF k X.A)(hg:Gl X x)(hm:X.mg x=some (.ref f))(hk:PySem.W.keepIn X.K (.ref f)=true)(hb:cV X.K fd ps ds)(hd:aT dvs ds)(hx:cG CX X E)
  (ha:PA X (e::es) t) (hdb:autoParam ((x==("__debug__":Str))=false) zz1._auto_1) (he:autoParam (starEach (e::es) X.env=(false,eval e X.env)::starEach es X.env) zz0._auto_1) (hpl:autoParam ((backTo pos (starEach es X.env)).any (·.1)=false) zz0._auto_1) :
  PE X (.Call (.Name x p) (e::es) [] pos) (nG sp dvs E t):=by
 intro pins s σ H Q I h;refine wpAny_Call_Name_kw (jw I hg hm ?_ hdb);refine PySem.W.callWith_K (h₀:=X.base) I.ok.mod.kin hk (bK (ha pos pins s σ H _ I h) λus s1 ⟨vs,H1,I1,r,q⟩=>⟨I1.kIn,?_⟩) he hpl;exact lI F hr hb hd hx I1 r q
theorem BO{pl:Sem Bool}(he:PE X o ta)(c:kS X.K C)(hm:dC X.K C m f)(F:aZ X.prog X.w X.K X.mg X.base CX k f fd ps sp)(hr:cF k X.A)(hb:cV X.K fd ps ds)(hd:aT dvs ds)(hx:cG CX X E)(ha:PA X (e::es) t)
  (hst:autoParam (starEach (e::es) X.env=(false,eval e X.env)::starEach es X.env) zz0._auto_1) (hpl:autoParam ((backTo pos (starEach es X.env)).any (·.1)=false) zz0._auto_1)
  (ht:autoParam (eval (.Call (.Attribute o m apos) (e::es) [] pos) X.env=(do
   let ov <- eval o X.env
   standAt apos.atName
   let (f,first) <- holding [ov] (getMethod ov m pl)
   callWith pos f first (backTo pos (starEach (e::es) X.env)) (backToKw pos (keywordEach [] X.env)))) zz0._auto_1) :
  PE X (.Call (.Attribute o m apos) (e::es) [] pos) (pU C m sp dvs E ta t):=by
 intro pins s σ H Q I h;refine PySem.W.methodCall_KW (pl:=pl) (bK (he pins s σ H _ I h) λu s1 ⟨x,H1,I1,rx,a,dx,fs,ex,ea,l,q⟩=>?_) ht;subst ex;obtain rfl:u=Value.ref a:=rx;refine fL I1 ea c hm l ?_;refine PySem.W.callWith_K (first:=[.ref a]) (h₀:=X.base) I.ok.mod.kin hm.kp (bK (ha pos pins s1 σ H1 _ I1 q) λus s2 ⟨vs,H2,I2,r,q2⟩=>⟨I2.kIn,?_⟩) hst hpl;exact lI (us:=.ref a::us) (vs:=.ref a::vs) F hr hb hd hx I2 (.cons rfl r) q2
theorem Az{pl:Sem Bool}(he:PE X o ta)(c:kS X.K C)(hm:dC X.K C m f)(F:aZ X.prog X.w X.K X.mg X.base CX k f fd ps sp)(hr:cF k X.A)(hb:cV X.K fd ps ds)(hd:aT dvs ds)(hx:cG CX X E)
  (ht:autoParam (eval (.Call (.Attribute o m apos) [] [] pos) X.env=(do
   let ov <- eval o X.env
   standAt apos.atName
   let (f,first) <- holding [ov] (getMethod ov m pl)
   callWith pos f first (backTo pos (starEach [] X.env)) (backToKw pos (keywordEach [] X.env)))) zz0._auto_1) :
  PE X (.Call (.Attribute o m apos) [] [] pos) (pU C m sp dvs E ta oZ):=by
 intro pins s σ H Q I h;refine PySem.W.methodCall_KW (pl:=pl) (bK (he pins s σ H _ I h) λu s1 ⟨x,H1,I1,rx,a,dx,fs,ex,ea,l,q⟩=>?_) ht;subst ex;obtain rfl:u=Value.ref a:=rx;refine fL I1 ea c hm l ?_;exact PySem.W.callWith_K0 (first:=[.ref a]) I1.kIn hm.kp (lI (us:=[.ref a]) (vs:=[.ref a]) F hr hb hd hx I1 (.cons rfl .nil) q)
structure Mk(K:HW)(C f:Addr):Prop where
 makes:PySem.W.makesIn K C=true
 init:PySem.W.findIn K (.ref C) "__init__"=some (some (.ref f))
 fn:PySem.W.isFn K (.ref f)=true
 kp:PySem.W.keepIn K (.ref C)=true
theorem Aq{pins:HX}{σ:St}{H:Hp}{s:HZ}{Q:VK}{us:Ia}{vs:List V}(M:Mk X.K C f)(F:aZ X.prog X.w X.K X.mg X.base CX k f fd ps sp)(hr:cF (k+1) X.A)(hb:cV X.K fd ps ds)(hd:aT dvs ds)
  (hx:cG CX X E) (I:Inv X pins σ H s) (r:aT vs us)
  (h:∀x dx,H x=none->H dx=none->dx≠x->sp (.ref x::(vs++dvs)) (au (au H dx (.own x)) x (.ins C dx [])) (λv H2=>v=.non/\Q (.ref x) H2) E) :
  wpAny (model X.prog X.w) X.A (call (.ref C) us) (EP X pins σ Q) X.xe s:=by
 have hq:=h (s.heap.objs.size+1) s.heap.objs.size (I.hok.fresh (Nat.le_succ _)) (I.hok.fresh (Hr _)) (Hm (HA _));have I2:=Inv.made (C:=C) I;have r2:aT (V.ref (s.heap.objs.size+1)::(vs++dvs)) (Value.ref (s.heap.objs.size+1)::(us++ds)):=.cons rfl (r.append hd);have hl:(Value.ref (s.heap.objs.size+1)::us++ds).length=ps.length:=by
  have e:=r2.length;rw[F.len _ _ _ _ hq]at e;exact e.symm
 refine wpAny_call (yH (f:=f) I.kIn M.makes M.init (beq_iff_eq.mp M.fn) (codeAny_mono (F.run _ X.stack _ _ ⟨Value.ref (s.heap.objs.size+1)::us,[]⟩ (Value.ref (s.heap.objs.size+1)::(us++ds)) _ _ E (hr.make C us [])
  (I2.env0.make C us []) (hb _ (Value.ref (s.heap.objs.size+1)::us) I2.kIn hl) r2 hq) λr s' hq'=>?_))
 cases r with
 |error e=>exact hx pins σ _ _ e s' I2 hq'
 |ok fl=>
  cases fl with
  |ret u=>
   obtain⟨v,H',I3,rv,ev,q3⟩:=I2.after hq';subst ev;exact⟨rv,⟨V.ref (s.heap.objs.size+1),H',I3,rfl,q3⟩⟩
  |next=>exact False.elim hq'
  |brk=>exact False.elim hq'
  |cont=>exact False.elim hq'
theorem A7(M:Mk X.K C f)(F:aZ X.prog X.w X.K X.mg X.base CX k f fd ps sp)(hr:cF (k+1) X.A)(hg:Gl X x)(hm:X.mg x=some (.ref C))(hb:cV X.K fd ps ds)(hd:aT dvs ds)(hx:cG CX X E)
  (ha:PA X (e::es) t) (hdb:autoParam ((x==("__debug__":Str))=false) zz1._auto_1) (he:autoParam (starEach (e::es) X.env=(false,eval e X.env)::starEach es X.env) zz0._auto_1) (hpl:autoParam ((backTo pos (starEach es X.env)).any (·.1)=false) zz0._auto_1) :
  PE X (.Call (.Name x p) (e::es) [] pos) (wD C sp dvs E t):=by
 intro pins s σ H Q I h;refine wpAny_Call_Name_kw (jw I hg hm ?_ hdb);refine PySem.W.callWith_K (h₀:=X.base) I.ok.mod.kin M.kp (bK (ha pos pins s σ H _ I h) λus s1 ⟨vs,H1,I1,r,q⟩=>⟨I1.kIn,?_⟩) he hpl;exact Aq M F hr hb hd hx I1 r q
end
section
variable {X:Cx}{CX:j9}{k:Nat}{f C:Addr}{fd:Ie}{ps ks:Ih}{sp:Sp}{E:XK}{x m:Str}{p pos apos kpos:Pos}{e o:Expr}{es:Il}{kws:List Keyword}{te ta:TE}{t tk:TA}{nm:Option Str}
structure Ed(K:HW)(fd:Ie)(ps ks:Ih)(g:List Value->List Value->List Value)(gV:List V->List V->List V):Prop where
 to:∀(s:HZ) (us ws:Ia),K.In s.heap->(g us ws).length=ps.length->BindsTo s fd ⟨us,ks.zip ws⟩ (ps.zip (g us ws))
 rel:∀{vs:List V} {us:Ia} {zs:List V} {ws:Ia},aT vs us->aT zs ws->aT (gV vs zs) (g us ws)
variable {g:List Value->List Value->List Value}{gV:List V->List V->List V}
end
structure ay(N P:Ih)(sc:Scope):Prop where
 kind:sc.kind=.function
 co:sc.isCoroutine=false
 gen:sc.isGenerator=false
 nd:N.Nodup
 pre:N.take P.length=P
 par:∀x∈P,sc.names.lookup x=some .local\/sc.names.lookup x=some .cell
 nofree:∀y∈sc.names,y.2≠.free
theorem pr{kindOf:Str->Option NameKind}{x:Str}:∀{binds:List (Str×Value)} {m:Ic},(∀v,(x,v)∉binds)->bindL kindOf binds m x=m x
 | [],_,_=>rfl
 | (n,v)::r,m,h=>by
  unfold bindL;rw[pr λw hw=>h w (Hj _ hw)]
  split
  ·have:x≠n:=by rintro rfl;exact h v List.mem_cons_self
   simp[this]
  ·rfl
theorem pW{kindOf:Str->Option NameKind}{x:Str}:∀{binds:List (Str×Value)} {m:Ic},(∀v,(x,v)∉binds)->bindC kindOf binds m x=m x
 | [],_,_=>rfl
 | (n,v)::r,m,h=>by
  unfold bindC;rw[pW λw hw=>h w (Hj _ hw)]
  split
  ·rfl
  ·have:x≠n:=by rintro rfl;exact h v List.mem_cons_self
   simp[this]
theorem qf{kindOf:Str->Option NameKind}{x:Str}{v:Value}:∀{P:Ih} {vs:Ia} {i:Nat} {m:Ic},P.Nodup->P[i]?=some x->vs[i]?=some v->kindOf x=some .local ->
  bindL kindOf (P.zip vs) m x=some v
 | [],_,_,_,_,h,_,_=>by simp at h
 |_::_,[],_,_,_,_,h,_=>by simp at h
 |p::P,w::vs,0,m,nd,h1,h2,hk=>by
  simp at h1 h2;subst h1;subst h2
  show bindL kindOf ((p,w)::P.zip vs) m p=_;unfold bindL;rw[pr λv hv=>(List.nodup_cons.mp nd).1 (List.of_mem_zip hv).1,if_pos hk];simp
 |p::P,w::vs,i+1,m,nd,h1,h2,hk=>by
  show bindL kindOf ((p,w)::P.zip vs) m x=_;unfold bindL;exact qf (i:=i) (List.nodup_cons.mp nd).2 (by simpa using h1) (by simpa using h2) hk
theorem qb{kindOf:Str->Option NameKind}{x:Str}{v:Value}:∀{P:Ih} {vs:Ia} {i:Nat} {m:Ic},P.Nodup->P[i]?=some x->vs[i]?=some v->kindOf x≠some .local ->
  bindC kindOf (P.zip vs) m x=some v
 | [],_,_,_,_,h,_,_=>by simp at h
 |_::_,[],_,_,_,_,h,_=>by simp at h
 |p::P,w::vs,0,m,nd,h1,h2,hk=>by
  simp at h1 h2;subst h1;subst h2
  show bindC kindOf ((p,w)::P.zip vs) m p=_;unfold bindC;rw[pW λv hv=>(List.nodup_cons.mp nd).1 (List.of_mem_zip hv).1,if_neg hk];simp
 |p::P,w::vs,i+1,m,nd,h1,h2,hk=>by
  show bindC kindOf ((p,w)::P.zip vs) m x=_;unfold bindC;exact qb (i:=i) (List.nodup_cons.mp nd).2 (by simpa using h1) (by simpa using h2) hk
noncomputable def start(N:Ih)(vs:List V):St:=vs.map some++List.replicate (N.length-vs.length) none
noncomputable def fJ(CX:j9)(P:Ig)(w:Ij)(K:HW)(mg:Ic)(base:Heap)(N:Ih)(qual:Str)(scope:Scope)(f:Addr)(cd:Value)(A:Ii)(outer:List Env)(s:HZ)(H:Hp)(E:XK):Cx where
 prog:=P
 w:=w
 K:=K
 mg:=mg
 base:=base
 A:=A.deeper (envOfC qual scope s.heap.objs.size f cd)
 N:=N
 s₀:=s
 H₀:=H
 env:=envOfC qual scope s.heap.objs.size f cd
 outer:=outer
 stack:=envOfC qual scope s.heap.objs.size f cd::outer
 ex:=[]
 calm:=true
 fn:=λ_=>true
 pn:=[]
 xe:=λe s'=>wpAny (model P w) (A.deeper (envOfC qual scope s.heap.objs.size f cd)) (leaving (envOfC qual scope s.heap.objs.size f cd) e) (λ_ s''=>CX outer H s E e s'') (λe' s''=>CX outer H s E e' s'') s'
theorem sL{sc:Scope}{n:Nat}{x:Str}(h:sc.names.lookup x=some .cell):∃c,(cellsFrom n sc.names []).lookup x=some c:=by
 have q:=PySem.W.cellsFrom_some sc.names n [] (.inl h);exact Option.isSome_iff_exists.mp q
theorem yi{CX:j9}{P:Ig}{w:Ij}{K:HW}{mg:Ic}{base:Heap}{N ps:Ih}{qual:Str}{scope:Scope}{f:Addr}{cd:Value}{A:Ii}{outer:List Env}{s s1:HZ}{H:Hp}{E:XK}{us:Ia}{vs:List V}
  (S:ay N ps scope) (hd:A.handled=none) (e0:tD P w K mg base A outer s H) (hl:vs.length=ps.length) (r:aT vs us)
  (x:InCallC s s.heap.objs.size (bindL (envOfC qual scope s.heap.objs.size f cd).kindOf (ps.zip us) λ_=>none) (cellsFrom (s.heap.objs.size+1) scope.names []) (bindC (envOfC qual scope s.heap.objs.size f cd).kindOf (ps.zip us) λ_=>none) s1) :
  Inv (fJ CX P w K mg base N qual scope f cd A outer s H E) [] (start N vs) H s1:=by
 have hpl:ps.length<=N.length:=by have:=congrArg List.length S.pre;rw[HF]at this;omega
 obtain⟨h1,tk,rfl,hk⟩:=x.done;have noA:∀b:Addr,b∉(fJ CX P w K mg base N qual scope f cd A outer s H E).ex:=λb z=>absurd (show b∈([]:List Addr) from z) (by simp);refine⟨⟨e0.mod,S.kind,rfl,rfl,Hr _,λy z c h1 h2=>?_,λy hy=>?_,λy c _ h=>?_,λ_=>hd,Around.frames_deeper e0.frames,.inr ⟨rfl,rfl⟩,λb z=>absurd z (noA b),e0.bs,e0.bsz,λb _ _=>noA b,λb z=>absurd z (noA b),e0.funs,e0.frf⟩,
  rfl,e0.bare,Un.kept hk,⟨_,x.toInCall.ns,λi y v h1 h2 h3=>?_⟩,λy c h=>⟨_,x.cell y c h⟩,e0.hok.fresh (Hr _),λy c h=>?_,λp hp=>absurd (show p∈([]:List (Addr×Obj)) from hp) (by simp),e0.hok.kept hk,?_⟩
 ·exact name_of_addr x.apart (PySem.mem_of_lookup h1) (PySem.mem_of_lookup h2)
 ·have hy:scope.names.lookup y=some .cell\/scope.names.lookup y=some .free:=hy
  rcases hy with hy | hy
  ·exact sL hy
  ·exact absurd rfl (S.nofree _ (PySem.mem_of_lookup hy))
 ·exact Nat.le_of_lt (x.above y c (PySem.mem_of_lookup h))
 ·have hi:i<vs.length:=by
   unfold start at h2
   by_cases hi:i<vs.length
   ·exact hi
   ·rw[Hn (by simpa using hi)]at h2
    rw[List.getElem?_replicate]at h2
    split at h2<;>cases h2
  have ha:vs[i]?=some v:=by
   unfold start at h2;rw[Ho (by simpa using hi),G9]at h2;cases e:vs[i]? with
   |none=>rw[e]at h2;cases h2
   |some a=>rw[e]at h2;cases h2;rfl
  obtain⟨u,hu,rv⟩:=r.get ha;have hp:ps[i]?=some y:=by
   rw[<- S.pre,List.getElem?_take_of_lt ⋯];exact h1
  have ndP:ps.Nodup:=by rw[<- S.pre];exact S.nd.sublist (List.take_sublist _ _)
  refine⟨u,rv,?_⟩;rcases S.par y (G_ hp) with k | k
  ·exact .inl ⟨k,qf ndP hp hu k⟩
  ·obtain⟨c,e⟩:=sL (n:=s.heap.objs.size+1) k
   refine .inr ⟨.inl k,c,e,?_⟩;have q:=x.cell y c e;rw[qb ndP hp hu (by show scope.names.lookup y≠_;rw[k];decide)]at q;exact q
 ·exact e0.hok.fresh (Nat.le_of_lt (x.above y c (PySem.mem_of_lookup h)))
 ·unfold start
  show _=N.length;rw[Hq,G7,List.length_replicate];omega
theorem B4{CX:j9}{P:Ig}{w:Ij}{K:HW}{mg:Ic}{base:Heap}{k:Nat}{f:Addr}{name qual:Str}{params:Arguments}{body:List Stmt}{scope:Scope}{dV kV doc pm cdv ct oc:Value}{an od:Ik}
  {osl:Array (Option Value)} {N ps:Ih} {sp:Sp} (lk:K.lookup f=some ⟨oc,od,.func (PySem.W.fnOf name qual params body scope dV kV doc pm an cdv ct),osl⟩) (hcd:PySem.W.codeIn K cdv qual=true) (S:ay N ps scope)
  (len:∀vs H Q E,sp vs H Q E->vs.length=ps.length)
  (hbody:∀(A:Ii) (outer:List Env) (s:HZ) (H:Hp) (vs:List V) (Q:VK) (E:XK),cF k (A.deeper (envOfC qual scope s.heap.objs.size f cdv))->sp vs H Q E ->
   ∃t,ut (fJ CX P w K mg base N qual scope f cdv A outer s H E) body t/\t {nx:=λ_ H'=>Q .non H',rt:=Q} (start N vs) H) :
  aZ P w K mg base CX (k+1) f (PySem.W.fnOf name qual params body scope dV kV doc pm an cdv ct) ps sp:=by
 refine⟨len,λA outer s H args us vs Q E hr e0 hb r hsp=>?_⟩;have hl:=len _ _ _ _ hsp;have KX:K.In s.heap:=e0.mod.kin.keeps λb o e=>(e0.bs b o e).1;have lim:s.heap.NoLimit:=e0.mod.nolimit.keeps λb o e=>(e0.bs b o e).1;have hkind:∀y∈ps.zip us,scope.names.lookup y.1=some .local\/(scope.names.lookup y.1=some .cell/\((cellsFrom (s.heap.objs.size+1) scope.names []).lookup y.1).isSome=true):=λ⟨n,v⟩ hy=>by
  rcases S.par n (List.of_mem_zip hy).1 with q | q
  ·exact .inl q
  ·exact .inr ⟨q,PySem.W.cellsFrom_some _ _ _ (.inl q)⟩
 refine codeAny_call_function hr.depth (KX _ _ lk) rfl S.co S.gen rfl (PySem.W.codeRec_of KX hcd) (hb _ _ _ _ ?_);refine wpAny_newFunctionEnv_cells S.kind hkind λenv he s1 x=>?_;subst he;refine⟨lim.keeps x.toInCall.keep,codeAny_func ?_⟩;obtain⟨t,ht,hq⟩:=hbody A outer s H vs Q E (hr.deeper _) hsp;have I:Inv (fJ CX P w K mg base N qual scope f cdv A outer s H E) [] (start N vs) H s1:=yi S hr.hd e0 hl r x;refine wpAny_mono (ht [] s1 (start N vs) H _ I hq) (λfl s' hs=>?_) λe s' hs=>hs;have fin:∀{σ':St} {H':Hp} {v:V} {u:Value},Inv (fJ CX P w K mg base N qual scope f cdv A outer s H E) [] σ' H' s'->ba v u->Q v H'->CE outer P w H s Q u s':=
  fun{σ' H' v u} J rv q=>⟨v,H',J.os,J.bare,J.base,J.hok,rv,q⟩
 cases fl with
 |ret u=>
  obtain⟨v,σ',H',J,rv,q⟩:=hs;exact fin J rv q
 |next=>
  obtain⟨σ',H',J,q⟩:=hs;exact fin (v:=V.non) (u:=Value.none) J rfl q
 |brk=>
  obtain⟨_,_,_,q⟩:=hs;exact False.elim q
 |cont=>
  obtain⟨_,_,_,q⟩:=hs;exact False.elim q
section
variable {X:Cx}{x:Str}{p pos:Pos}{e:Expr}{es:Il}{t:TA}{id T:String}{r:List V->Hp->VK->Prop}
noncomputable def DS(r:List V->Hp->VK->Prop)(t:TA):TE:=λσ H Q=>t σ H λvs H1=>r vs H1 Q
theorem ax(hc:ft X (.builtin id) r)(hg:Gl X x)(hm:X.mg x=none)(hv:bootBuiltins x=some (.builtin id))(ha:PA X (e::es) t)(hn:autoParam (x≠"__name__") zz1._auto_1)(hdb:autoParam ((x==("__debug__":Str))=false) zz1._auto_1)
  (he:autoParam (starEach (e::es) X.env=(false,eval e X.env)::starEach es X.env) zz0._auto_1) (hpl:autoParam ((backTo pos (starEach es X.env)).any (·.1)=false) zz0._auto_1):PE X (.Call (.Name x p) (e::es) [] pos) (DS r t):=by
 intro pins s σ H Q I h;refine wpAny_Call_Name_kw (dL I hg hm hv ?_ hn hdb);exact PyProof.Rows.callWith_builtin1 (bK (ha pos pins s σ H _ I h) λus s1 ⟨vs,H1,I1,r1,q1⟩=>hc pins s1 σ H1 vs us Q I1 r1 q1) he hpl
theorem cw(hc:ft X (.type T) r)(hg:Gl X x)(hm:X.mg x=none)(hv:bootBuiltins x=some (.type T))(ha:PA X (e::es) t)(hn:autoParam (x≠"__name__") zz1._auto_1)(hdb:autoParam ((x==("__debug__":Str))=false) zz1._auto_1)
  (he:autoParam (starEach (e::es) X.env=(false,eval e X.env)::starEach es X.env) zz0._auto_1) (hpl:autoParam ((backTo pos (starEach es X.env)).any (·.1)=false) zz0._auto_1):PE X (.Call (.Name x p) (e::es) [] pos) (DS r t):=by
 intro pins s σ H Q I h;refine wpAny_Call_Name_kw (dL I hg hm hv ?_ hn hdb);exact PyProof.Rows.callWith_type1 (bK (ha pos pins s σ H _ I h) λus s1 ⟨vs,H1,I1,r1,q1⟩=>hc pins s1 σ H1 vs us Q I1 r1 q1) he hpl
end
end L2
namespace HT
open PySem PyProof.Rows
section
open PySem.SeqAt
open PySem.AutoSeq1 (wpAny_loadPart')
open PySem.MeetsSeq PySem.MeetsSeq2 PySem.MeetsSeq3
end
section
variable {prog:Ig}{w:Ij}{A:Ii}{E:HV}{s:HZ}
theorem cat_tup{t b:Addr}{vs ws:Ia}{Q:HV}(ht:IsTup s.heap t vs.toArray)(hb:IsTup s.heap b ws.toArray)(hv:vs≠[])
  (h1:ws=[]->Q (.ref t) s) (h2:ws≠[]->Q (.ref s.heap.objs.size) {s with heap:=s.heap.push {cls:=.type "tuple",data:=.seq (vs++ws).toArray} })
  (hsz:vs.length+ws.length<=sizeLine):wpAny (model prog w) A (binaryOp .Add (.ref t) (.ref b)) Q E s:=by
 obtain⟨⟨cls,dd,data,sl⟩,ho,hc,n,hd⟩:=id ht;obtain⟨⟨cls2,dd2,data2,sl2⟩,ho2,hc2,n2,hd2⟩:=id hb;simp only at hc hd hc2 hd2;subst hc hd hc2 hd2;have e:vs.toArray++ws.toArray=(vs++ws).toArray:=by simp
 by_cases hw:ws=[]
 ·exact concat_meets ⟨_,ho,rfl⟩ ⟨_,ho2,rfl⟩ noFill_tuple_add seq_tuple_add PySem.F.slot_tuple_add PySem.F.entry_tuple_add (PySem.F.args_tuple_add_2 _ _)
   (tuple_addW1 t b vs.toArray ws.toArray n n2 dd dd2 sl sl2 (by simpa using hv) (by simp[hw])) ⟨ho,ho2,h1 hw⟩
 ·refine concat_meets ⟨_,ho,rfl⟩ ⟨_,ho2,rfl⟩ noFill_tuple_add seq_tuple_add PySem.F.slot_tuple_add PySem.F.entry_tuple_add (PySem.F.args_tuple_add_2 _ _)
   (tuple_addW2 t b vs.toArray ws.toArray n n2 dd dd2 sl sl2 (by simpa using hv) (by simpa using hw) (by rw[Hb,Hb];exact hsz)) ⟨ho,ho2,?_⟩
  rw[e];exact h2 hw
noncomputable def sIx(n d:Nat):Option Int->Nat
 |none=>d
 |some v=>if v<0 then(v+(n:Int)).toNat else min v.toNat n
theorem sIx_nat(n d k:Nat):sIx n d (some (k:Int))=min k n:=by
 show(if(k:Int)<0 then((k:Int)+(n:Int)).toNat else min (k:Int).toNat n)=min k n;rw[if_neg ⋯,Int.toNat_natCast]
theorem sIx_le(n d:Nat)(hd:d<=n)(o:Option Int):sIx n d o<=n:=by
 cases o with
 |none=>exact hd
 |some v=>
  show(if v<0 then(v+(n:Int)).toNat else min v.toNat n)<=n
  by_cases hv:v<0
  ·rw[if_pos hv];omega
  ·rw[if_neg hv];exact Nat.min_le_right _ _
theorem v_(v:Int)(n d:Nat):(if v<0 then max (v+(n:Int)) 0 else min v (n:Int))=((sIx n d (some v):Nat):Int):=by
 show(if v<0 then max (v+(n:Int)) 0 else min v (n:Int))=(((if v<0 then(v+(n:Int)).toNat else min v.toNat n):Nat):Int)
 by_cases hv:v<0
 ·simp only[if_pos hv];omega
 ·simp only[if_neg hv];omega
theorem vA(lo hi:Option Int)(n:Nat):Builtin.Slice.sliceAdjust lo hi 1 (n:Int)=(((sIx n 0 lo:Nat):Int),((sIx n n hi:Nat):Int)):=by
 have h1:¬ ((1:Int)<0):=by omega
 unfold Builtin.Slice.sliceAdjust;simp only[h1,if_false];refine Prod.ext ?_ ?_
 ·cases lo with
  |none=>rfl
  |some v=>exact v_ v n 0
 ·cases hi with
  |none=>rfl
  |some v=>exact v_ v n n
theorem vD(i j:Nat):Builtin.Slice.slicePlaces (i:Int) (j:Int) 1=j-i:=by
 unfold Builtin.Slice.slicePlaces;have h1:(1:Int)>0:=by omega
 simp only[h1,if_true,Int.ediv_one]
 split<;>omega
theorem oF{v:Value}{o:Option Int}{Q:Option Int->Shared->Prop}(p:IsPart v o)(h:Q o s):wpAny (model prog w) A (Builtin.Slice.slicePartIndex v) Q E s:=by
 cases p with
 |none=>exact slicePart_none h
 |int i t=>exact slicePart_int h
theorem g_{sl:Addr}{vl vu:Value}{lo hi:Option Int}{n:Nat}{Q:Int×Int×Nat->Shared->Prop}(hs:s.heap.IsSliceOf sl vl vu .none)(pl:IsPart vl lo)(pu:IsPart vu hi)
  (h:Q (((sIx n 0 lo:Nat):Int),1,sIx n n hi-sIx n 0 lo) s):wpAny (model prog w) A (Builtin.Slice.sliceApplied (.ref sl) (pure (n:Int))) Q E s:=by
 obtain⟨os,hos,hcs,hds⟩:=id hs;unfold Builtin.Slice.sliceApplied Builtin.Slice.sliceFields;refine wpAny_bind (wpAny_bind (wpAny_field hos hds (x:=vl) rfl (wpAny_bind (wpAny_field hos hds (x:=vu) rfl (wpAny_bind (wpAny_field hos hds (x:=.none) rfl (wpAny_pure ?_)))))));refine wpAny_bind (slicePart_none ?_);show wpAny _ _ (if((1:Int)==0)=true then _ else _) _ _ s;rw[if_neg nofun];refine wpAny_bind (oF pl (wpAny_bind (oF pu (wpAny_bind (wpAny_pure ?_)))));show wpAny _ _ (match Builtin.Slice.sliceAdjust lo hi 1 (n:Int) with | (lo,hi)=>pure (lo,(1:Int),Builtin.Slice.slicePlaces lo hi 1)) _ _ s;rw[vA lo hi n];show wpAny _ _ (pure (((sIx n 0 lo:Nat):Int),(1:Int),Builtin.Slice.slicePlaces ((sIx n 0 lo:Nat):Int) ((sIx n n hi:Nat):Int) 1)) _ _ s;rw[vD];exact wpAny_pure h
theorem zI(xs:Array Value)(i k:Nat):((List.range k).filterMap fun(m:Nat)=>xs[((i:Int)+(m:Int)*1).toNat]?).toArray=((xs.toList.drop i).take k).toArray:=by
 have e:(fun(m:Nat)=>xs[((i:Int)+(m:Int)*1).toNat]?)=λm=>xs[i+m]?:=by
  funext m
  have:((i:Int)+(m:Int)*1).toNat=i+m:=by omega
  rw[this]
 rw[e];have:=pick_run xs i k;rw[List.filterMap_map]at this;have e2:((λx=>xs[x]?)∘λx=>i+x)=λm=>xs[i+m]?:=rfl;rw[e2]at this;rw[this]
theorem getItem_tuple_cut{t sl:Addr}{items:Array Value}{vl vu:Value}{lo hi:Option Int}{Q:HV}(ht:IsTup s.heap t items)(hs:s.heap.IsSliceOf sl vl vu .none)(pl:IsPart vl lo)(pu:IsPart vu hi)
  (hw:¬ (sIx items.size 0 lo=0/\sIx items.size items.size hi=items.size))
  (h:Q (.ref s.heap.objs.size) {s with heap:=s.heap.push {cls:=.type "tuple",data:=.seq ((items.toList.drop (sIx items.size 0 lo)).take (sIx items.size items.size hi-sIx items.size 0 lo)).toArray} })
  (hsz:items.size<=sizeLine):wpAny (model prog w) A (getItem (.ref t) (.ref sl)) Q E s:=by
 have htake:sizeOk (.seq ((items.toList.drop (sIx items.size 0 lo)).take (sIx items.size items.size hi-sIx items.size 0 lo)).toArray):=by
  show((items.toList.drop (sIx items.size 0 lo)).take (sIx items.size items.size hi-sIx items.size 0 lo)).toArray.size<=sizeLine;rw[Hb,HF,HG,Array.length_toList];omega
 have hj:sIx items.size items.size hi<=items.size:=sIx_le _ _ (Hr _) hi;obtain⟨os,hos,hcs,hds⟩:=id hs;have hTs:s.TypeIs (.ref sl) "slice":=⟨os,hos,hcs⟩;unfold getItem
 try with_reducible refine wpAny_holding ?_
 first | refine wpAny_bind (wpAny_pure ?_) | skip
 refine wpAny_bind (wpAny_sequenceKey ht.typeIs nofun ?_);refine wpAny_bind (wpAny_callSpecial?_slot (name:=Str.ofString "__getitem__") ht.typeIs PyProof.Rows.slot_tuple_getitem
  (wpAny_call_entry PyProof.Rows.slot_tuple_getitem ht.typeIs entry_tuple_getitem ?_ (args_tuple_getitem _ _)))
 show wpAny _ _ (Builtin.Tuple.tupleItemsOf (.ref t) >>= _) _ _ s;refine wpAny_bind (tupleItemsOf_ ht ?_);refine wpAny_bind (wpAny_typeOf hTs ?_);rw[if_pos nofun];refine wpAny_bind (g_ hs pl pu ?_);have hno:¬ ((((sIx items.size 0 lo:Nat):Int)==0&&(1:Int)==1&&(sIx items.size items.size hi-sIx items.size 0 lo)==items.size)=true):=by
  intro q;rw[Bool.and_eq_true,Bool.and_eq_true]at q;have q1:((sIx items.size 0 lo:Nat):Int)=0:=eq_of_beq q.1.1;have q2:sIx items.size items.size hi-sIx items.size 0 lo=items.size:=eq_of_beq q.2;exact hw ⟨⋯,⋯⟩
 show wpAny _ _ (if(((sIx items.size 0 lo:Nat):Int)==0&&(1:Int)==1&&(sIx items.size items.size hi-sIx items.size 0 lo)==items.size)=true then _ else _) _ _ s;rw[if_neg hno,zI]
 first
  |exact wpAny_bind (m:=Builtin.Tuple.tupleExact _) (wpAny_newObj_type (wpAny_pure ⟨_,rfl,wpAny_pure h⟩) htake)
  |exact wpAny_bind (m:=Builtin.Tuple.tupleExact _) (wpAny_newObj_type (wpAny_bind (wpAny_pure (wpAny_pure ⟨_,rfl,wpAny_pure h⟩))) htake)
  |exact wpAny_bind (wpAny_bind (m:=Builtin.Tuple.tupleExact _) (wpAny_newObj_type (wpAny_pure (wpAny_pure ⟨_,rfl,wpAny_pure h⟩)) htake))
  |exact wpAny_bind (wpAny_bind (m:=Builtin.Tuple.tupleExact _) (wpAny_newObj_type (wpAny_pure ⟨_,rfl,wpAny_pure h⟩) htake))
end
end HT
namespace L2
open PySem PySem.Spec PyProof.Rows
noncomputable abbrev TO:=St->Hp->(Option Int->Hp->Prop)->Prop
def PO(X:Cx)(e:Option Expr)(t:TO):Prop:=
 ∀(pins:HX) (s:HZ) (σ:St) (H:Hp) (Q:Option Int->Hp->Prop),Inv X pins σ H s->t σ H Q ->
  wpAny (model X.prog X.w) X.A (evalPart e X.env) (λu s'=>∃o H',Inv X pins σ H' s'/\IsPart u o/\Q o H') X.xe s
noncomputable def rX:TO:=λ_ H Q=>Q none H
noncomputable def AN(t:TE):TO:=λσ H Q=>t σ H λx H1=>∃i,x=.int i/\Q (some i) H1
section
variable {X:Cx}{e:Expr}{te:TE}{lo hi:Option Expr}{tl th:TO}{pos p2:Pos}
theorem jB:PO X none rX:=by
 intro pins s σ H Q I h;rw[evalPart_none];exact wpAny_pure ⟨none,H,I,.none,h⟩
theorem fR(h:PE X e te):PO X (some e) (AN te):=by
 intro pins s σ H Q I hw;rw[evalPart_some];refine bK (h pins s σ H _ I hw) λu s1 ⟨x,H1,I1,r1,q1⟩=>?_;obtain⟨i,rfl,q⟩:=q1;obtain⟨t,rfl⟩:=r1;exact⟨some i,H1,I1,.int i t,q⟩
def Dj(X:Cx)(r:V->Option Int->Option Int->Hp->VK->Prop):Prop:=
 ∀(pins:HX) (s:HZ) (σ:St) (H:Hp) (x:V) (v vl vu:Value) (lo hi:Option Int) (sl:Addr) (Q:VK),Inv X pins σ H s->ba x v->s.heap.IsSliceOf sl vl vu .none->IsPart vl lo->IsPart vu hi->r x lo hi H Q ->
  ∃T id,typeLookup (.type T) "__getitem__"=pure (some (.builtin id))/\s.TypeIs v T/\wpAny (model X.prog X.w) X.A (getItem v (.ref sl)) (EP X pins σ Q) X.xe s
noncomputable def Eb(r:V->Option Int->Option Int->Hp->VK->Prop)(te:TE)(tl th:TO):TE:=λσ H Q=>te σ H λx H1=>tl σ H1 λl H2=>th σ H2 λu H3=>r x l u H3 Q
theorem fH{r:V->Option Int->Option Int->Hp->VK->Prop}(hr:Dj X r)(he:PE X e te)(hl:PO X lo tl)(hu:PO X hi th):PE X (.Subscript e (.Slice lo hi none p2) pos) (Eb r te tl th):=by
 intro pins s σ H Q I h;refine Subscript_ (bK (he pins s σ H _ I h) λv s1 ⟨x,H1,I1,r1,q1⟩=>?_);refine wpAny_Slice (bK (hl pins s1 σ H1 _ I1 q1) λvl s2 ⟨l,H2,I2,pl,q2⟩=>bK (hu pins s2 σ H2 _ I2 q2) λvu s3 ⟨u,H3,I3,pu,q3⟩=>?_);rw[evalPart_none];refine wpAny_pure ?_;have I4:Inv X pins σ H3 {s3 with heap:=s3.heap.push {cls:=.type "slice",data:=.fields #[vl,vu,.none]} }:=I3.kept (t':=s3.toks) λb ob q=>G6 _ q;obtain⟨T,id,hT,ht,hg⟩:=hr pins {s3 with heap:=s3.heap.push {cls:=.type "slice",data:=.fields #[vl,vu,.none]} } σ H3 x v vl vu l u s3.heap.objs.size Q I4 r1 (Heap.IsSliceOf.new ..) pl pu q3;show wpAny (model X.prog X.w) X.A (subscriptTail e (.Slice lo hi none p2) v (.ref s3.heap.objs.size)) (EP X pins σ Q) X.xe {s3 with heap:=s3.heap.push {cls:=.type "slice",data:=.fields #[vl,vu,.none]} };exact tail_any (ops:=[.ref s3.heap.objs.size,v]) ht hT hg (by with_unfolding_all rfl)
noncomputable def l8(xs:List V)(lo hi:Option Int):List V:=(xs.drop (HT.sIx xs.length 0 lo)).take (HT.sIx xs.length xs.length hi-HT.sIx xs.length 0 lo)
theorem iR(xs:List V)(lo hi:Option Int):(l8 xs lo hi).length<=xs.length:=by
 unfold l8;rw[HF,HG];omega
noncomputable def AY(K:HW):V->Option Int->Option Int->Hp->VK->Prop:=λx lo hi H Q=>∃a xs,x=.ref a/\bx K H a xs /\
 ¬ (HT.sIx xs.length 0 lo=0/\HT.sIx xs.length xs.length hi=xs.length)/\∀p,H p=none->Q (.ref p) (au H p (.tup (l8 xs lo hi)))
theorem Ch:Dj X (AY X.K):=by
 intro pins s σ H x v vl vu lo hi sl Q I rx hs pl pu h;obtain⟨a,xs,rfl,hx,hw,q⟩:=h;cases rx;obtain⟨its,r,ht,hz⟩:=I.tuple hx;have hlen:its.toArray.size=xs.length:=by rw[Hb];exact r.length.symm
 refine⟨"tuple",_,PyProof.Rows.slot_tuple_getitem.lookup,ht.typeIs,?_⟩;refine HT.getItem_tuple_cut ht hs pl pu (by rw[hlen];exact hw) ?_ (by rw[hlen];exact hz);rw[hlen];refine⟨.ref s.heap.objs.size,_,I.laid (t':=s.toks) (o:=.tup (l8 xs lo hi)) (λb ob q=>G6 _ q) (Hr _) ?_,rfl,q _ (I.hok.fresh (Hr _))⟩;exact⟨Hy (iR xs lo hi) hz,_,(r.drop (HT.sIx xs.length 0 lo)).take (HT.sIx xs.length xs.length hi-HT.sIx xs.length 0 lo),IsTup.new _ _⟩
noncomputable def zy(K:HW):R2:=λx y H Q=>∃a b xs ys,x=.ref a/\y=.ref b/\bx K H a xs/\bx K H b ys/\xs≠[]/\xs.length+ys.length<=sizeLine /\
 (ys=[]->Q (.ref a) H)/\(ys≠[]->∀p,H p=none->Q (.ref p) (au H p (.tup (xs++ys))))
theorem aT.nil_iff{xs:List V}{us:Ia}(r:aT xs us):us=[]↔xs=[]:=by
 cases r with
 |nil=>simp
 |cons _ _=>simp
theorem il:aW X (binaryOp .Add) (zy X.K):=by
 intro pins s σ H x y v u Q I rx ry h;obtain⟨a,b,xs,ys,rfl,rfl,ha,hb,hx,hz,q1,q2⟩:=h;cases rx;cases ry;obtain⟨its,r1,p1,_⟩:=I.tuple ha;obtain⟨its2,r2,p2,_⟩:=I.tuple hb;refine HT.cat_tup p1 p2 (λz=>hx (r1.nil_iff.mp z)) (λz=>⟨.ref a,H,I,rfl,q1 (r2.nil_iff.mp z)⟩) (λz=>?_) (by rw[<- r1.length,<- r2.length];exact hz);refine⟨.ref s.heap.objs.size,_,I.laid (t':=s.toks) (o:=.tup (xs++ys)) (λb ob q=>G6 _ q) (Hr _) ?_,rfl,q2 (λw=>z (r2.nil_iff.mpr w)) _ (I.hok.fresh (Hr _))⟩;exact⟨by rw[Hq];exact hz,_,r1.append r2,IsTup.new _ _⟩
end
noncomputable def Cc(n:Nat)(i:Int):Option Nat:=if 0<=i then(if i<n then some i.toNat else none) else if -(n:Int)<=i then some (i+n).toNat else none
noncomputable def dY{α:Type}(xs:List α)(i:Int):Option α:=(Cc xs.length i).bind λj=>xs[j]?
theorem A1{n:Nat}{i:Int}{j:Nat}(h:Cc n i=some j):seqIndex? i n=some j/\j<n/\-(n:Int)<=i/\i<n:=by
 unfold Cc at h
 by_cases h0:0<=i
 ·rw[if_pos h0]at h
  by_cases h1:i<n
  ·rw[if_pos h1]at h
   have e:i.toNat=j:=Option.some.inj h;exact⟨by rw[seqIndex_of h0 h1,e],⋯,⋯,h1⟩
  ·rw[if_neg h1]at h;cases h
 ·rw[if_neg h0]at h
  by_cases h1:-(n:Int)<=i
  ·rw[if_pos h1]at h
   have e:(i+n).toNat=j:=Option.some.inj h;exact⟨by rw[seqIndex_neg ⋯ h1,e],⋯,h1,⋯⟩
  ·rw[if_neg h1]at h;cases h
theorem qP{α:Type}{xs:List α}{i:Int}{v:α}(h:dY xs i=some v):∃j,seqIndex? i xs.length=some j/\xs[j]?=some v/\j<xs.length/\-(xs.length:Int)<=i/\i<xs.length:=by
 unfold dY at h;cases e:Cc xs.length i with
 |none=>rw[e]at h;cases h
 |some j=>
  rw[e]at h;obtain⟨h1,h2,h3,h4⟩:=A1 e;exact⟨j,h1,h,h2,h3,h4⟩
theorem br{α:Type}{xs:List α}{j:Nat}{v:α}(h:xs[j]?=some v):dY xs (j:Int)=some v:=by
 have hj:j<xs.length:=(G5.mp h).1;have e:Cc xs.length (j:Int)=some j:=by
  unfold Cc;rw[if_pos ⋯,if_pos ⋯];simp
 unfold dY;rw[e];exact h
def wK(b:Expr):Prop:=∀o i,subscripted b false o i=operate [o,i] (getItem o i)
def B2(X:Cx)(r:R2):Prop:=
 ∀(value slice:Expr) (pins:HX) (s:HZ) (σ:St) (H:Hp) (x y:V) (v u:Value) (Q:VK),Inv X pins σ H s->ba x v->ba y u->r x y H Q ->
  subscripted slice false v u=operate [v,u] (getItem v u)->wpAny (model X.prog X.w) X.A (subscriptTail value slice v u) (EP X pins σ Q) X.xe s
def ER(X:Cx)(id:String)(r:V->List V->Hp->VK->Prop):Prop:=
 ∀(pins:HX) (s:HZ) (σ:St) (H:Hp) (x:V) (xs:List V) (v:Value) (us:Ia) (Q:VK),Inv X pins σ H s->ba x v->aT xs us->r x xs H Q ->
  wpAny (model X.prog X.w) X.A (call (.builtin id) (v::us)) (EP X pins σ Q) X.xe s
section
variable {X:Cx}{a b:Expr}{ta tb:TE}{pos:Pos}
theorem aD{r:R2}(hr:B2 X r)(ha:PE X a ta)(hb:PE X b tb)(hs:wK b):PE X (.Subscript a b pos) (Cf r ta tb):=by
 intro pins s σ H Q I h;exact Subscript_ (Cq ha hb I h λv u s2 x y H2 I2 rx ry q=>hr a b pins s2 σ H2 x y v u Q I2 rx ry q (hs _ _))
noncomputable def uK(K:HW):R2:=λx y H Q=>∃p xs i v,x=.ref p/\y=.int i/\aN K H p xs/\dY xs i=some v/\Q v H
noncomputable def wZ(K:HW):R2:=λx y H Q=>∃p xs i v,x=.ref p/\y=.int i/\bx K H p xs/\dY xs i=some v/\Q v H
noncomputable def CW:R2:=λx y H Q=>∃z i c,x=.str z/\y=.int i/\z.length<=sizeLine/\dY z.cps.toList i=some c/\Q (.str ⟨#[c]⟩) H
theorem mX:B2 X (uK X.K):=by
 intro value slice pins s σ H x y v u Q I rx ry h hs;obtain⟨p,xs,i,z,rfl,rfl,hq,he,q⟩:=h;cases rx;obtain⟨t,rfl⟩:=ry;obtain⟨its,r,pl,hz⟩:=I.list hq;obtain⟨j,h1,h2,h3,h4,h5⟩:=qP he;obtain⟨w,ew,rw'⟩:=r.get h2;have hl:=r.length;have hn:=m7;have fin:EP X pins σ Q w s:=⟨z,H,I,rw',q⟩
 by_cases h0:0<=i
 ·have hj:i.toNat=j:=by
   rw[seqIndex_of h0 h5]at h1;exact Option.some.inj h1
  exact item_listR pl.isList h0 ⋯ (by rw[hj];simpa using ew) fin hs
 ·have hj:(i+(its.toArray.size:Int)).toNat=j:=by
   rw[seqIndex_neg ⋯ h4]at h1;rw[Hb,<- hl];exact Option.some.inj h1
  exact subscriptTail_builtinR (x:=w) pl.isList.typeIs slot_list_getitem.lookup
   (wpAny_getItem_list_neg (Q:=λr s'=>r=w/\EP X pins σ Q r s') pl.isList ⋯ (by rw[Hb]<;>omega) ⋯ (by rw[hj];simpa using ew) ⟨rfl,fin⟩) hs
theorem zu:B2 X (wZ X.K):=by
 intro value slice pins s σ H x y v u Q I rx ry h hs;obtain⟨p,xs,i,z,rfl,rfl,hq,he,q⟩:=h;cases rx;obtain⟨t,rfl⟩:=ry;obtain⟨its,r,pl,hz⟩:=I.tuple hq;obtain⟨j,h1,h2,h3,h4,h5⟩:=qP he;obtain⟨w,ew,rw'⟩:=r.get h2;have hl:=r.length;have hn:=m7;have fin:EP X pins σ Q w s:=⟨z,H,I,rw',q⟩;exact subscriptTail_builtinR (x:=w) pl.typeIs slot_tuple_getitem.lookup
  (getItem_tuple (j:=j) (Q:=λr s'=>r=w/\EP X pins σ Q r s') pl ⋯ ⋯ (by rw[Hb,<- hl];exact h1) (by simpa using ew) ⟨rfl,fin⟩) hs
theorem jv:B2 X CW:=by
 intro value slice pins s σ H x y v u Q I rx ry h hs;obtain⟨z,i,c,rfl,rfl,hz,he,q⟩:=h;obtain⟨t,rfl⟩:=rx;obtain⟨t',rfl⟩:=ry;obtain⟨j,h1,h2,h3,h4,h5⟩:=qP he;have hl:z.cps.toList.length=z.length:=by simp[Str.length]
 rw[hl]at h1 h4 h5;have hn:=m7;exact tail_any (typeIs_str s z t) slot_str_getitem.lookup (getItem_str (c:=c) (by
  have e1:decide (i < -(2 ^ 63:Int))=false:=decide_eq_false ⋯;have e2:decide (i≥2 ^ 63)=false:=decide_eq_false ⋯;rw[e1,e2,Bool.or_false]) (by rw[h1];simpa using h2) ⟨.str ⟨#[c]⟩,H,I.tok _,⟨_,rfl⟩,q⟩) hs
theorem rJ(lo hi:Option Int)(n:Nat):(sliceBounds lo hi none n).1=((HT.sIx n 0 lo:Nat):Int)/\(sliceBounds lo hi none n).2.1=((HT.sIx n n hi:Nat):Int)/\(sliceBounds lo hi none n).2.2=1:=by
 refine⟨?_,?_,rfl⟩
 ·cases lo with
  |none=>simp[sliceBounds,HT.sIx]
  |some i=>
   simp only[sliceBounds,HT.sIx,Option.getD_none,show(1:Int)>0 by decide,if_true]
   by_cases h:i<0
   ·simp only[h,if_true]<;>omega
   ·simp only[h,if_false]<;>omega
 ·cases hi with
  |none=>simp[sliceBounds,HT.sIx]
  |some i=>
   simp only[sliceBounds,HT.sIx,Option.getD_none,show(1:Int)>0 by decide,if_true]
   by_cases h:i<0
   ·simp only[h,if_true]<;>omega
   ·simp only[h,if_false]<;>omega
theorem oQ(its:Ia)(lo hi:Option Int):slicePick its.toArray lo hi none=((its.drop (HT.sIx its.length 0 lo)).take (HT.sIx its.length its.length hi-HT.sIx its.length 0 lo)).toArray:=by
 obtain⟨h1,h2,h3⟩:=rJ lo hi its.toArray.size;unfold slicePick;rw[h1,h2,h3];simp only[sliceRange_one,pick_run,Hb]<;>rfl
noncomputable def CJ(K:HW):V->Option Int->Option Int->Hp->VK->Prop:=λx lo hi H Q=>∃a xs,x=.ref a/\aN K H a xs/\∀p,H p=none->Q (.ref p) (au H p (.lst (l8 xs lo hi)))
theorem A':Dj X (CJ X.K):=by
 intro pins s σ H x v vl vu lo hi sl Q I rx hs pl pu h;obtain⟨a,xs,rfl,hx,q⟩:=h;cases rx;obtain⟨its,r,ht,hz⟩:=I.list hx;have hlen:=r.length;refine⟨"list",_,slot_list_getitem.lookup,ht.isList.typeIs,?_⟩;refine wpAny_getItem_list_slice ht.isList hs pl pu .none (by simp) ?_ (by rw[Hb]<;>omega);rw[oQ,<- hlen];refine⟨.ref s.heap.objs.size,_,I.laid (t':=s.toks) (o:=.lst (l8 xs lo hi)) (λb ob q=>G6 _ q) (Hr _) ?_,rfl,q _ (I.hok.fresh (Hr _))⟩;exact⟨Hy (iR xs lo hi) hz,_,0,(r.drop (HT.sIx xs.length 0 lo)).take (HT.sIx xs.length xs.length hi-HT.sIx xs.length 0 lo),Ha _ rfl⟩
noncomputable def ur:V->Bool
 | .non=>true
 | .bl _=>true
 | .int _=>true
 | .str _=>true
 |_=>false
noncomputable def uL:V->V->Bool
 | .non,.non=>true
 | .bl a,.bl b=>a==b
 | .bl a,.int b=>(if a then 1 else 0)==b
 | .int a,.bl b=>a==(if b then 1 else 0)
 | .int a,.int b=>a==b
 | .str a,.str b=>a==b
 |_,_=>false
theorem gu{A:Ii}{s:HZ}{y x:V}{u v:Value}(ry:ba y u)(rx:ba x v)(fy:ur y=true)(fx:ur x=true):SeqAt.EqAt A s u v (uL y x):=by
 cases y with
 |non=>
  cases ry;cases x with
  |non=>cases rx;exact SeqAt.EqAt.same _
  |bl b=>cases rx;exact SeqAt.EqAt.none_bool b
  |int b=>obtain⟨t,rfl⟩:=rx;exact SeqAt.EqAt.none_int b t
  |str b=>obtain⟨t,rfl⟩:=rx;exact SeqAt.EqAt.none_str b t
  |_=>exact absurd (show false=true from fx) Ht
 |bl a=>
  cases ry;cases x with
  |non=>cases rx;exact SeqAt.EqAt.bool_none a
  |bl b=>cases rx;exact SeqAt.EqAt.bool_bool a b
  |int b=>obtain⟨t,rfl⟩:=rx;exact SeqAt.EqAt.bool_int a b t
  |str b=>obtain⟨t,rfl⟩:=rx;exact SeqAt.EqAt.bool_str a b t
  |_=>exact absurd (show false=true from fx) Ht
 |int a=>
  obtain⟨t',rfl⟩:=ry;cases x with
  |non=>cases rx;exact SeqAt.EqAt.int_none a t'
  |bl b=>cases rx;exact SeqAt.EqAt.int_bool a t' b
  |int b=>obtain⟨t,rfl⟩:=rx;exact SeqAt.EqAt.int_int a t' b t
  |str b=>obtain⟨t,rfl⟩:=rx;exact SeqAt.EqAt.int_str a t' b t
  |_=>exact absurd (show false=true from fx) Ht
 |str a=>
  obtain⟨t',rfl⟩:=ry;cases x with
  |non=>cases rx;exact SeqAt.EqAt.str_none a t'
  |bl b=>cases rx;exact SeqAt.EqAt.str_bool a t' b
  |int b=>obtain⟨t,rfl⟩:=rx;exact SeqAt.EqAt.str_int a t' b t
  |str b=>obtain⟨t,rfl⟩:=rx;exact SeqAt.EqAt.str_str a t' b t
  |_=>exact absurd (show false=true from fx) Ht
 |_=>exact absurd (show false=true from fy) Ht
theorem rn:ft X (.builtin "len") (λxs H Q=>∃p ys,xs=[.ref p]/\(aN X.K H p ys\/bx X.K H p ys)/\Q (.int ys.length) H):=by
 intro pins s σ H xs us Q I r h;obtain⟨p,ys,rfl,hq,q⟩:=h;obtain⟨u,rfl,rx⟩:=nr r;cases rx;have hn:=m7;rcases hq with hq | hq
 ·obtain⟨its,r',pl,hz⟩:=I.list hq
  have hlen:=r'.length;exact Calls.call_len_list pl.isList (by simp only[Hb]<;>omega) ⟨.int ys.length,H,I.tok _,⟨s.toks+1,by rw[Hb,hlen]⟩,q⟩
 ·obtain⟨its,r',pl,hz⟩:=I.tuple hq
  have hlen:=r'.length;exact len_tuple pl (by simp only[Hb]<;>omega) ⟨.int ys.length,H,I.tok _,⟨s.toks+1,by rw[Hb,hlen]⟩,q⟩
theorem aS:ft X (.builtin "len") (λxs H Q=>∃z,xs=[.str z]/\z.length<=sizeLine/\Q (.int z.length) H):=by
 intro pins s σ H xs us Q I r h;obtain⟨z,rfl,hz,q⟩:=h;obtain⟨u,rfl,t,rfl⟩:=nr r;have hn:=m7;exact len_str ⋯ ⟨.int z.length,H,I.tok _,⟨_,rfl⟩,q⟩
theorem cg:ft X (.type "list") (λxs H Q=>∃p ys,xs=[.ref p]/\(aN X.K H p ys\/bx X.K H p ys)/\∀l,H l=none->Q (.ref l) (au H l (.lst ys))):=by
 intro pins s σ H xs us Q I r h;obtain⟨p,ys,rfl,hq,q⟩:=h;obtain⟨u,rfl,rx⟩:=nr r;cases rx;have fin:∀(its:Ia),aT ys its->ys.length<=sizeLine->∀(h':Heap) (c':Nat),(∀b o',s.heap.get? b=some o'->h'.get? b=some o') ->
   h'.get? s.heap.objs.size=some {cls:=.type "list",dict:=none,data:=.seq its.toArray c',slots:=#[]}->EP X pins σ Q (.ref s.heap.objs.size) {s with heap:=h' }:=λits r' hz h' c' kp e=>
  ⟨.ref s.heap.objs.size,_,I.laid (t':=s.toks) kp (Hr _) (show bE X.prog X.w _ h' _ (.lst ys) from⟨hz,its,c',r',e⟩),rfl,q _ (I.hok.fresh (Hr _))⟩
 rcases hq with hq | hq
 ·obtain⟨its,r',pl,hz⟩:=I.list hq
  have hlen:=r'.length;obtain⟨o,ho,hc,n,hd⟩:=pl.isList;exact call_list_seq p (.inl rfl) ho hc hd (λh' c' kp e=>fin its r' hz h' c' kp e) (by simp only[Hb]<;>omega)
 ·obtain⟨its,r',pl,hz⟩:=I.tuple hq
  have hlen:=r'.length;obtain⟨o,ho,hc,n,hd⟩:=pl;exact call_list_seq p (.inr rfl) ho hc hd (λh' c' kp e=>fin its r' hz h' c' kp e) (by simp only[Hb]<;>omega)
theorem o6:ft X (.type "tuple") (λxs H Q=>∃p ys,xs=[.ref p]/\((aN X.K H p ys/\∀l,H l=none->Q (.ref l) (au H l (.tup ys)))\/(bx X.K H p ys/\Q (.ref p) H))):=by
 intro pins s σ H xs us Q I r h;obtain⟨p,ys,rfl,h⟩:=h;obtain⟨u,rfl,rx⟩:=nr r;cases rx;rcases h with⟨hq,q⟩ | ⟨hq,q⟩
 ·obtain⟨its,r',pl,hz⟩:=I.list hq
  have hlen:=r'.length;refine call_tuple_list pl.isList (λh' kp=>?_) (by simp only[Hb]<;>omega);have I1:Inv X pins σ H {s with heap:=h' }:=I.kept (t':=s.toks) kp;have I2:Inv X pins σ (au H h'.objs.size (.tup ys)) {s with heap:=h'.push {cls:=.type "tuple",data:=.seq its.toArray} }:=
   I1.laid (t':=s.toks) (λb o e=>G6 _ e) (Hr _) (show bE X.prog X.w _ _ _ (.tup ys) from⟨hz,its,r',IsTup.new _ _⟩)
  exact⟨.ref h'.objs.size,_,I2,rfl,q _ (I1.hok.fresh (Hr _))⟩
 ·obtain⟨its,r',pl,hz⟩:=I.tuple hq
  exact call_tuple_same pl ⟨.ref p,H,I,rfl,q⟩
def Ex(K:HW)(T:String)(x:V)(H:Hp):Prop:=match x with
 | .str _=>T="str"
 | .int _=>T="int"
 | .ref p=>(T="list"/\∃xs,aN K H p xs)\/(T="tuple"/\∃o,K.lookup p=some o/\o.cls=.type "tuple"/\o.dict=none) \/
   (T="dict"/\((∃kvs,H p=some (.dK kvs))\/∃kvs,H p=some (.dT kvs)))\/(T="set"/\∃S n,H p=some (.set S n))
 |_=>False
theorem CQ{pins:HX}{σ:St}{H:Hp}{s:HZ}{T:String}{x:V}{v:Value}(I:Inv X pins σ H s)(r:ba x v)(ty:Ex X.K T x H) :
  s.TypeIs v T/\∀a,v=.ref a->∃ob,s.heap.get? a=some ob/\ob.dict=none:=by
 cases x with
 |str z=>
  obtain⟨t,rfl⟩:=r;cases(show T="str" from ty);exact⟨typeIs_str s z t,λ_ e=>nomatch e⟩
 |int i=>
  obtain⟨t,rfl⟩:=r;cases(show T="int" from ty);exact⟨typeIs_int s i t,λ_ e=>nomatch e⟩
 |ref p=>
  cases r;rcases ty with⟨rfl,xs,hq⟩ | ⟨rfl,o,hk,hc,hd⟩ | ⟨rfl,hk⟩ | ⟨rfl,S,n,hk⟩
  ·obtain⟨its,_,pl,_⟩:=I.list hq
   refine⟨pl.isList.typeIs,λa e=>?_⟩;cases e;obtain⟨o,n,e,c,hd,_⟩:=pl;exact⟨o,e,hd⟩
  ·refine⟨⟨o,I.kIn p o hk,hc⟩,λa e=>?_⟩
   cases e;exact⟨o,I.kIn _ o hk,hd⟩
  ·have z:∃o,s.heap.get? p=some o/\o.ExactDict:=by
    rcases hk with⟨kvs,hk⟩ | ⟨kvs,hk⟩
    ·obtain⟨_,_,_,_,o,_,_,e,ex,_⟩:=I.hok p _ hk
     exact⟨o,e,ex⟩
    ·obtain⟨_,_,_,_,o,_,_,e,ex,_⟩:=I.hok p _ hk
     exact⟨o,e,ex⟩
   obtain⟨o,e,ex⟩:=z;refine⟨⟨o,e,ex.1⟩,λa e2=>?_⟩;cases e2;exact⟨o,e,ex.2.1⟩
  ·obtain⟨o,_,_,_,e,ex,_⟩:=I.hok p _ hk
   refine⟨⟨o,e,ex.1⟩,λa e2=>?_⟩;cases e2;exact⟨o,e,ex.2.1⟩
 |_=>exact False.elim ty
noncomputable def Eo(K:HW)(T:String)(r:V->List V->Hp->VK->Prop)(to:TE)(t:TA):TE:=λσ H Q=>to σ H λx H1=>Ex K T x H1/\t σ H1 λxs H2=>r x xs H2 Q
variable {o e:Expr}{es:Il}{to:TE}{t:TA}{name:Str}{apos cpos:Pos}{T id:String}{r:V->List V->Hp->VK->Prop}
theorem gX(pa:PlainAttrs T)(slot:Slot T name id)(hty:typeOf (.builtin id)=pure (.type "method_descriptor"))(hm:ER X id r)(ho:PE X o to)(ha:PA X (e::es) t)
  (hbase:autoParam (attributeBase o name X.env (eval o X.env)=eval o X.env) zz0._auto_1)
  (hfew:autoParam (((backTo cpos (starEach (e::es) X.env)).all (λx=>!x.1)&&(backToKw cpos (keywordEach [] X.env)).all (λx=>x.1.isSome)
   && decide ((e::es).length+([]:List Keyword).length+(if([]:List Keyword).isEmpty then 0 else 1)<30))=true) zz0._auto_1)
  (hline:autoParam ((apos.endLine==cpos.line)=true) zz0._auto_1) (hs:autoParam (starEach (e::es) X.env=(false,eval e X.env)::starEach es X.env) zz0._auto_1) (hplain:autoParam ((backTo cpos (starEach es X.env)).any (·.1)=false) zz0._auto_1) :
  PE X (.Call (.Attribute o name apos) (e::es) [] cpos) (Eo X.K T r to t):=by
 intro pins s σ H Q I h;refine wpAny_Call_method_late hbase hfew hline rfl (bK (ho pins s σ H _ I h) λv s1 ⟨x,H1,I1,r1,ty,q1⟩=>?_);obtain⟨h1,h2⟩:=CQ I1 r1 ty;refine⟨T,id,pa,slot,hty,h1,h2,?_⟩;have hA:=ha cpos pins s1 σ H1 _ I1 q1;rw[hs]at hA ⊢;refine Calls.callWith_builtin (by show(false||(backTo cpos (starEach es X.env)).any (·.1))=false;rw[hplain]<;>rfl) (Calls.evalArgs_plain ?_);exact bK hA λus s2 ⟨vs,H2,I2,r2,q2⟩=>hm pins s2 σ H2 x vs v us Q I2 r1 r2 q2
end
def Ei(X:Cx)(id:String)(r:V->List V->Hp->VK->Prop):Prop:=
 ∀(pins:HX) (s:HZ) (σ:St) (H:Hp) (x:V) (xs:List V) (v:Value) (us:Ia) (Q:VK),Inv X pins σ H s->ba x v->aT xs us->r x xs H Q ->
  wpAny (model X.prog X.w) X.A (call (.builtin id) (v::us)) (EP X pins σ Q) X.xe s
theorem aT.one:∀{x:V} {us:Ia},aT [x] us->∃u,us=[u]/\ba x u
 |_,_,.cons r .nil=>⟨_,rfl,r⟩
theorem aT.two:∀{x y:V} {us:Ia},aT [x,y] us->∃u v,us=[u,v]/\ba x u/\ba y v
 |_,_,_,.cons r (.cons q .nil)=>⟨_,_,rfl,r,q⟩
theorem aT.zero:∀{us:Ia},aT [] us->us=[]
 |_,.nil=>rfl
theorem aT.eraseIdx:∀{xs:List V} {us:Ia} (i:Nat),aT xs us->aT (xs.eraseIdx i) (us.eraseIdx i)
 |_,_,_,.nil=>.nil
 |_,_,0,.cons _ t=>t
 |_,_,i+1,.cons r t=>.cons r (aT.eraseIdx i t)
theorem aT.reverse{xs:List V}{us:Ia}(h:aT xs us):aT xs.reverse us.reverse:=by
 induction h with
 |nil=>exact .nil
 |cons r t ih=>rw[List.reverse_cons,List.reverse_cons];exact aT.append ih (.cons r .nil)
theorem pP{α:Type}:∀(l:List α) (i:Nat),(l.eraseIdx i).length<=l.length
 | [],_=>Hr _
 |_::_,0=>Nat.le_succ _
 |_::r,i+1=>Nat.succ_le_succ (pP r i)
section
variable {X:Cx}{pins:HX}{σ:St}{H:Hp}{s:HZ}{l b:Addr}{xs ys zs:List V}
theorem Inv.lset{its its':Ia}{n:Nat}{f:Array Value->Array Value}{t':Nat}(I:Inv X pins σ H s)(hH:H l=some (.lst xs))
  (e:s.heap.get? l=some {cls:=.type "list",data:=.seq its.toArray n}) (hf:f its.toArray=its'.toArray) (hv:aT ys its') (hz:ys.length<=sizeLine) :
  Inv X pins σ (au H l (.lst ys)) {s with heap:=s.heap.update l (Obj.mapSeq f),toks:=t' }:=by
 have q:=PySem.IsL.update e f;rw[hf]at q;refine I.write (x:=l) (e:=l) (by rw[hH];exact trivial) (.inl rfl) (λb' u hb hu=>(G' s.heap (Obj.mapSeq f) (Ne.symm hb)).trans hu) ⟨_,q⟩ ?_;exact⟨hz,its',_,hv,q⟩
theorem Inv.lnew{its:Ia}{t':Nat}(I:Inv X pins σ H s)(hv:aT ys its)(hz:ys.length<=sizeLine) :
  Inv X pins σ (au H s.heap.objs.size (.lst ys)) {s with heap:=s.heap.push {cls:=.type "list",data:=.seq its.toArray},toks:=t' }:=
 I.laid (λ_ _ q=>G6 _ q) (Hr _) ⟨hz,its,0,hv,Ha _ rfl⟩
theorem Inv.fresh(I:Inv X pins σ H s):H s.heap.objs.size=none:=I.hok.fresh (Hr _)
theorem Inv.lstM(I:Inv X pins σ H s)(hH:H l=some (.lst xs)):xs.length<=sizeLine/\∃(its:Ia) (n:Nat),aT xs its/\xs.length=its.length/\s.heap.get? l=some {cls:=.type "list",data:=.seq its.toArray n}:=by
 obtain⟨z,its,n,r,e⟩:=I.hok l _ hH;exact⟨z,its,n,r,r.length,e⟩
theorem yV{n:Nat}(h:n<=sizeLine):Builtin.List.listTooLong n=false:=by
 unfold Builtin.List.listTooLong;exact decide_eq_false ⋯
end
section
variable {X:Cx}
noncomputable def rF:V->List V->Hp->VK->Prop:=λx vs H Q=>∃l xs y,x=.ref l/\vs=[y]/\H l=some (.lst xs)/\xs.length<sizeLine/\Q .non (au H l (.lst (xs++[y])))
theorem cA:Ei X "list.append" rF:=by
 intro pins s σ H x vs v us Q I rx rv h;obtain⟨l,xs,y,rfl,rfl,hH,hz,q⟩:=h;cases rx;obtain⟨u,rfl,ru⟩:=rv.one;obtain⟨z,its,n,r,hl,e⟩:=I.lstM hH;refine call_meets F.slot_list_append ⟨_,e,rfl⟩ F.entry_list_append (F.args_list_append_2 _ _) (PySem.list_append l its.toArray n u (by rw[Hb];omega)) ⟨e,?_⟩;refine⟨.non,_,I.lset (its':=its++[u]) hH e (by simp) (r.append (.cons ru .nil)) ?_,rfl,q⟩;rw[Hq,List.length_singleton];omega
noncomputable def Bz:V->List V->Hp->VK->Prop:=λx vs H Q=>∃l b xs zs,x=.ref l/\vs=[.ref b]/\H l=some (.lst xs)/\H b=some (.lst zs)/\xs.length+zs.length<=sizeLine/\Q .non (au H l (.lst (xs++zs)))
theorem Dk:Ei X "list.extend" Bz:=by
 intro pins s σ H x vs v us Q I rx rv h;obtain⟨l,b,xs,zs,rfl,rfl,hH,hB,hz,q⟩:=h;cases rx;obtain⟨u,rfl,ru⟩:=rv.one;cases ru;obtain⟨z,its,n,r,hl,e⟩:=I.lstM hH;obtain⟨z2,its2,n2,r2,hl2,e2⟩:=I.lstM hB;have hsz:its.toArray.size+its2.toArray.size<=sizeLine:=by rw[Hb,Hb];omega
 have hlong:¬ (!its.toArray.isEmpty&&Builtin.List.listTooLong (its.toArray.size+its2.toArray.size))=true:=by
  rw[yV hsz,Bool.and_false];exact Ht
 refine call_meets F.slot_list_extend ⟨_,e,rfl⟩ F.entry_list_extend (F.args_list_extend_2 _ _)
  (AutoSeq1.list_extend_list_list_0 l its.toArray n b its2.toArray n2 hlong (by rw[Hb];omega) ⋯) ⟨e,e2,?_⟩
 refine⟨.non,_,I.lset (its':=its++its2) hH e (by simp) (r.append r2) ?_,rfl,q⟩;rw[Hq];omega
noncomputable def uN:V->List V->Hp->VK->Prop:=λx vs H Q=>∃l xs i k y,x=.ref l/\vs=[.int i]/\H l=some (.lst xs)/\-(2 ^ 63)<=i/\i<2 ^ 63/\seqIndex? i xs.length=some k/\xs[k]?=some y/\Q y (au H l (.lst (xs.eraseIdx k)))
theorem zM:Ei X "list.pop" uN:=by
 intro pins s σ H x vs v us Q I rx rv h;obtain⟨l,xs,i,k,y,rfl,rfl,hH,h1,h2,hk,hy,q⟩:=h;cases rx;obtain⟨u,rfl,ru⟩:=rv.one;obtain⟨t,rfl⟩:=ru;obtain⟨z,its,n,r,hl,e⟩:=I.lstM hH;obtain⟨w,hw,rw'⟩:=r.get hy;refine call_meets F.slot_list_pop ⟨_,e,rfl⟩ F.entry_list_pop (F.args_list_pop_2 _ _)
  (MeetsSeq.list_pop_at l its.toArray n i t k w (fitsIndex_both h1 h2) (by rw[Hb,<- hl];exact hk) (by rw[<- Array.getElem?_toList];exact hw) (by rw[Hb];omega)) ⟨e,?_⟩
 refine⟨y,_,I.lset (its':=its.eraseIdx k) hH e ?_ (r.eraseIdx k) ?_,rw',q⟩
 ·show its.toArray.eraseIdxIfInBounds k=(its.eraseIdx k).toArray
  rw[List.eraseIdxIfInBounds_toArray]
 ·have:=pP xs k
  omega
noncomputable def Cn:R2:=λx y H Q=>∃l b xs zs,x=.ref l/\y=.ref b/\H l=some (.lst xs)/\H b=some (.lst zs)/\xs.length+zs.length<=sizeLine/\∀p,H p=none->Q (.ref p) (au H p (.lst (xs++zs)))
theorem yB:aW X (binaryOp .Add) Cn:=by
 intro pins s σ H x y v u Q I rx ry h;obtain⟨l,b,xs,zs,rfl,rfl,hH,hB,hz,q⟩:=h;cases rx;cases ry;obtain⟨z,its,n,r,hl,e⟩:=I.lstM hH;obtain⟨z2,its2,n2,r2,hl2,e2⟩:=I.lstM hB;refine PySem.P.add_list e e2 ?_ (by rw[Hb,Hb];omega);have ea:its.toArray++its2.toArray=(its++its2).toArray:=by simp
 rw[ea];exact⟨.ref _,_,I.lnew (t':=s.toks) (r.append r2) (by rw[Hq];omega),rfl,q _ I.fresh⟩
end
section
variable {prog:Ig}{w:Ij}{A:Ii}{E:HV}{s:HZ}
end
section
variable {X:Cx}
end
section
variable {κ:Type}[DecidableEq κ]
noncomputable def bO(kvs:List (κ×V))(k:κ):Option V:=(kvs.find? λkv=>decide (kv.1=k)).map (·.2)
noncomputable def cn(kvs:List (κ×V))(k:κ)(v:V):List (κ×V):=
 if(kvs.any λkv=>decide (kv.1=k))=true then kvs.map (λkv=>if kv.1=k then(kv.1,v) else kv) else kvs++[(k,v)]
theorem cu{p:κ×V}{r:List (κ×V)}{k:κ}(e:p.1=k):bO (p::r) k=some p.2:=by simp[bO,List.find?_cons,e]
theorem cv{p:κ×V}{r:List (κ×V)}{k:κ}(e:¬ p.1=k):bO (p::r) k=bO r k:=by simp[bO,List.find?_cons,e]
theorem dW(k:κ):∀kvs:List (κ×V),(kvs.any λkv=>decide (kv.1=k))=(bO kvs k).isSome
 | []=>rfl
 |p::r=>by
  rw[List.any_cons]
  by_cases e:p.1=k
  ·simp only[cu e,decide_eq_true e,Bool.true_or,Option.isSome_some]
  ·rw[cv e,decide_eq_false e,Bool.false_or];exact dW k r
theorem ue(k j:κ)(y:V):∀kvs:List (κ×V),bO (kvs.map λkv=>if kv.1=k then(kv.1,y) else kv) j=(bO kvs j).map λx=>if j=k then y else x
 | []=>rfl
 |p::r=>by
  have ih:=ue k j y r;rw[Hx]
  by_cases h:p.1=k
  ·rw[if_pos h]
   by_cases e:p.1=j
   ·rw[cu (p:=(p.1,y)) e,cu e,Option.map_some,if_pos (e.symm.trans h)]
   ·rw[cv (p:=(p.1,y)) e,cv e,ih]
  ·rw[if_neg h]
   by_cases e:p.1=j
   ·rw[cu (p:=p) e,cu e,Option.map_some,if_neg (λz=>h (e.trans z))]
   ·rw[cv (p:=p) e,cv e,ih]
theorem pj(k j:κ)(y:V):∀kvs:List (κ×V),bO kvs k=none->bO (kvs++[(k,y)]) j=if j=k then some y else bO kvs j
 | [],_=>by
  by_cases e:k=j
  ·rw[if_pos e.symm];exact cu (p:=(k,y)) e
  ·rw[if_neg (λz=>e z.symm)];exact cv (p:=(k,y)) e
 |p::r,hn=>by
  rw[List.cons_append];have hk:¬ p.1=k:=λz=>by rw[cu z]at hn;cases hn
  rw[cv hk]at hn;have ih:=pj k j y r hn
  by_cases e:p.1=j
  ·rw[cu e,cu e,if_neg (λz=>hk (e.trans z))]
  ·rw[cv e,cv e,ih]
theorem nS(kvs:List (κ×V))(k j:κ)(y:V):bO (cn kvs k y) j=if j=k then some y else bO kvs j:=by
 unfold cn
 by_cases a:(kvs.any λkv=>decide (kv.1=k))=true
 ·rw[if_pos a,ue]
  rw[dW]at a
  by_cases e:j=k
  ·obtain⟨x,hx⟩:=Option.isSome_iff_exists.mp a
   rw[if_pos e,e,hx,Option.map_some,if_pos rfl]
  ·rw[if_neg e]
   cases bO kvs j with
   |none=>rfl
   |some x=>rw[Option.map_some,if_neg e]
 ·rw[if_neg a]
  refine pj k j y kvs ?_;rw[dW]at a;cases q:bO kvs k with
  |none=>rfl
  |some x=>rw[q]at a;exact(a rfl).elim
theorem f_(kvs:List (κ×V))(k:κ)(v:V):(cn kvs k v).length<=kvs.length+1:=by
 unfold cn
 split
 ·rw[G7];omega
 ·rw[Hq,He,List.length_nil];omega
theorem nL{kvs:List (κ×V)}{k:κ}(v:V)(h:bO kvs k=none):cn kvs k v=kvs++[(k,v)]:=by
 unfold cn;rw[dW,h];exact if_neg nofun
theorem jo.isSome_eq{o:Option V}{u:Option Value}(r:jo o u):o.isSome=u.isSome:=by
 cases o with
 |none=>cases u with
  |none=>rfl
  |some _=>exact(show False from r).elim
 |some _=>cases u with
  |none=>exact(show False from r).elim
  |some _=>rfl
theorem KV.val{kvs:List (κ×V)}{vs:List (κ×Value)}(r:KV kvs vs)(k:κ):jo (bO kvs k) (valueAt vs k):=by
 unfold KV at r
 induction r with
 |nil=>exact True.intro
 | @cons p q ps qs h t ih=>
  obtain⟨h1,h2⟩:=h
  by_cases e:p.1=k
  ·have e':q.1=k:=h1.symm.trans e
   have b:valueAt (q::qs) k=some q.2:=by simp[valueAt,List.find?_cons,e']
   rw[cu e,b];exact h2
  ·have e':¬ q.1=k:=λz=>e (h1.trans z)
   have b:valueAt (q::qs) k=valueAt qs k:=by simp[valueAt,List.find?_cons,e']
   rw[cv e,b];exact ih
theorem KV.any{kvs:List (κ×V)}{vs:List (κ×Value)}(r:KV kvs vs)(k:κ):(kvs.any λkv=>decide (kv.1=k))=vs.any λkv=>decide (kv.1=k):=by
 unfold KV at r
 induction r with
 |nil=>rfl
 |cons h t ih=>rw[List.any_cons,List.any_cons,ih,h.1]
theorem KV.repl{kvs:List (κ×V)}{vs:List (κ×Value)}(r:KV kvs vs)(k:κ){y:V}{u:Value}(ry:ba y u) :
  KV (kvs.map λkv=>if kv.1=k then(kv.1,y) else kv) (vs.map λkv=>if kv.1=k then(kv.1,u) else kv):=by
 unfold KV at r ⊢
 induction r with
 |nil=>exact .nil
 | @cons p q ps qs h t ih=>
  rw[Hx,Hx];refine .cons ?_ ih;obtain⟨h1,h2⟩:=h
  by_cases e:p.1=k
  ·rw[if_pos e,if_pos (h1.symm.trans e)];exact⟨h1,ry⟩
  ·rw[if_neg e,if_neg (λz=>e (h1.trans z))];exact⟨h1,h2⟩
theorem KV.put{kvs:List (κ×V)}{vs:List (κ×Value)}(r:KV kvs vs)(k:κ){y:V}{u:Value}(ry:ba y u):KV (cn kvs k y) (stored vs k u):=by
 unfold cn stored;rw[r.any k]
 by_cases e:(vs.any λkv=>decide (kv.1=k))=true
 ·rw[if_pos e,if_pos e];exact r.repl k ry
 ·rw[if_neg e,if_neg e];exact Paired.snoc r ⟨rfl,ry⟩
theorem KV.length{kvs:List (κ×V)}{vs:List (κ×Value)}(r:KV kvs vs):kvs.length=vs.length:=Paired.length r
end
theorem pQ{P:Ig}{w:Ij}{k:cE}{u:Value}(r:ba (kV k) u):(b9 P w).is k u=true:=by
 cases k with
 |inl i=>obtain⟨t,e⟩:=(show ∃t,u=Value.int i t from r);subst e;exact ua P w i t
 |inr x=>obtain⟨t,e⟩:=(show ∃t,u=Value.str x t from r);subst e;exact sQ P w x t
theorem pX{P:Ig}{w:Ij}:∀{ks:List cE} {us:Ia},aT (ks.map kV) us->ItemsAre (b9 P w) ks us
 | [],_,r=>by rw[List.map_nil]at r;cases r;exact .nil
 |k::ks,_,r=>by
  rw[Hx]at r;cases r with
  |cons h t=>exact .cons (pQ h) (pX t)
noncomputable abbrev KT(H:Hp):List (List cE×V)->List (List cE×Addr×Value)->Prop:=Paired λp q=>p.1=q.1/\H q.2.1=some (.tup (p.1.map kV))/\ba p.2 q.2.2
theorem KT.val{H:Hp}{kvs:List (List cE×V)}{xs:List (List cE×Addr×Value)}(r:KT H kvs xs)(k:List cE):jo (bO kvs k) ((atKey xs k).map (·.2)):=by
 induction r with
 |nil=>exact True.intro
 | @cons p q ps qs h t ih=>
  obtain⟨h1,_,h2⟩:=h
  by_cases e:p.1=k
  ·have e':q.1=k:=h1.symm.trans e
   have b:atKey (q::qs) k=some q.2:=by simp[atKey,List.find?_cons,e']
   rw[cu e,b];exact h2
  ·have e':¬ q.1=k:=λz=>e (h1.trans z)
   have b:atKey (q::qs) k=atKey qs k:=by simp[atKey,List.find?_cons,e']
   rw[cv e,b];exact ih
theorem KT.repl{H:Hp}{kvs:List (List cE×V)}{xs:List (List cE×Addr×Value)}(r:KT H kvs xs)(k:List cE){y:V}{u:Value}(ry:ba y u) :
  KT H (kvs.map λkv=>if kv.1=k then(kv.1,y) else kv) (xs.map (putAt k u)):=by
 induction r with
 |nil=>exact .nil
 | @cons p q ps qs h t ih=>
  rw[Hx,Hx];refine .cons ?_ ih;obtain⟨h1,h2,h3⟩:=h;unfold putAt
  by_cases e:p.1=k
  ·rw[if_pos e,if_pos (h1.symm.trans e)];exact⟨h1,h2,ry⟩
  ·rw[if_neg e,if_neg (λz=>e (h1.trans z))];exact⟨h1,h2,h3⟩
theorem KT.put{H:Hp}{kvs:List (List cE×V)}{xs:List (List cE×Addr×Value)}(r:KT H kvs xs)(k:List cE){b:Addr}{y:V}{u:Value}(hb:H b=some (.tup (k.map kV)))(ry:ba y u) :
  KT H (cn kvs k y) (storedH xs k b u):=by
 have e:(kvs.any λkv=>decide (kv.1=k))=(atKey xs k).isSome:=by
  rw[dW,(r.val k).isSome_eq,Option.isSome_map]
 unfold cn storedH;rw[e]
 by_cases q:(atKey xs k).isSome=true
 ·rw[if_pos q,if_pos q];exact r.repl k ry
 ·rw[if_neg q,if_neg q];exact Paired.snoc r ⟨rfl,hb,ry⟩
theorem KT.keeps{H H':Hp}{kvs:List (List cE×V)}{xs:List (List cE×Addr×Value)}(r:KT H kvs xs)(ht:∀b ys,H b=some (.tup ys)->H' b=some (.tup ys)):KT H' kvs xs:=
 Paired.mapP r λ_ _ z=>⟨z.1,ht _ _ z.2.1,z.2.2⟩
section
variable {P:Ig}{w:Ij}{H:Hp}{h:Heap}{a:Addr}
theorem B7{u:HO}(ok:jZ P w H h)(e:Rd H a u):bE P w H h a u:=e.ok ok
theorem pI{kvs:List (cE×V)}(ok:jZ P w H h)(e:Rd H a (.dK kvs)):kvs.length<=sizeLine/\(a==sysModules)=false/\∃vs,KV kvs vs/\h.DictOf (b9 P w) a vs:=
 show bE P w H h a (.dK kvs) from B7 ok e
theorem zt{kvs:List (cE×V)}(ok:jZ P w H h)(e:H a=some (.dK kvs)):kvs.length<=sizeLine/\(a==sysModules)=false/\∃vs,KV kvs vs/\h.DictOf (b9 P w) a vs:=pI ok (.inl e)
theorem q9{ks:List cE}(ok:jZ P w H h)(e:H a=some (.tup (ks.map kV))):(tupleKind (b9 P w)).is h ks a:=by
 obtain⟨_,its,r,o,h1,h2,n,h3⟩:=(show bE P w H h a (.tup (ks.map kV)) from ok a _ e);exact⟨o,its.toArray,n,h1,h2,h3,by simpa using pX r⟩
theorem sG{kvs:List (List cE×V)}(ok:jZ P w H h)(e:Rd H a (.dT kvs)):kvs.length<=sizeLine/\(a==sysModules)=false /\
  ∃xs,KT H kvs xs/\h.DictOfH (tupleKind (b9 P w)) a xs:=by
 obtain⟨z,y,xs,r,o,es,ep,h1,h2,h3,h4,h5⟩:=(show bE P w H h a (.dT kvs) from B7 ok e);refine⟨z,y,xs,r,o,es,ep,h1,h2,h3,h4,λx hx=>?_,h5⟩;have all:∀{l:List (List cE×V)} {m:List (List cE×Addr×Value)},KT H l m->∀x∈m,(tupleKind (b9 P w)).is h x.1 x.2.1:=by
  intro l m q
  induction q with
  |nil=>intro x hx;exact nomatch hx
  | @cons p q ps qs hq t ih=>
   intro x hx;rcases Hi.mp hx with e | hx
   ·subst e
    exact q9 ok (by rw[<- hq.1];exact hq.2.1)
   ·exact ih x hx
 exact all r x hx
theorem DI{kvs:List (List cE×V)}(ok:jZ P w H h)(e:H a=some (.dT kvs)):kvs.length<=sizeLine/\(a==sysModules)=false /\
  ∃xs,KT H kvs xs/\h.DictOfH (tupleKind (b9 P w)) a xs:=sG ok (.inl e)
end
def mE(H:Hp)(a:Addr)(y:V)(r:Option V):Prop:=
 (∃kvs k,Rd H a (.dK kvs)/\y=kV k/\r=bO kvs k)\/∃kvs k b,Rd H a (.dT kvs)/\y=.ref b/\H b=some (.tup (k.map kV))/\r=bO kvs k
def x_(H:Hp)(a:Addr)(y v:V)(H':Hp):Prop:=
 (∃kvs k,H a=some (.dK kvs)/\y=kV k/\kvs.length<sizeLine/\H'=au H a (.dK (cn kvs k v))) \/
 ∃kvs k b,H a=some (.dT kvs)/\y=.ref b/\H b=some (.tup (k.map kV))/\kvs.length<sizeLine/\H'=au H a (.dT (cn kvs k v))
theorem mE.t{H:Hp}{a b:Addr}{kvs:List (List cE×V)}{k:List cE}(e:H a=some (.dT kvs))(eb:H b=some (.tup (k.map kV))):mE H a (.ref b) (bO kvs k):=.inr ⟨kvs,k,b,.inl e,rfl,eb,rfl⟩
theorem x_.t{H:Hp}{a b:Addr}{kvs:List (List cE×V)}{k:List cE}{v:V}(e:H a=some (.dT kvs))(eb:H b=some (.tup (k.map kV)))(hl:kvs.length<sizeLine) :
  x_ H a (.ref b) v (au H a (.dT (cn kvs k v))):=.inr ⟨kvs,k,b,e,rfl,eb,hl,rfl⟩
section
variable {X:Cx}{pins:HX}{σ:St}{H:Hp}{s:HZ}{a:Addr}{y v:V}{u r:Value}{o:Option V}{A:Ii}{E:HV}
theorem Inv.big(I:Inv X pins σ H s):sysModules<s.heap.objs.size:=by
 have h:mainGlobals<s.heap.objs.size:=(I.mod.glob.keeps I.bk).lt;exact Nat.lt_trans nofun h
theorem xX{Q:HV}(hu:A.units+1<cLine)(I:Inv X pins σ H s)(g:mE H a y (some v))(ry:ba y u)(h:∀w' s',Inv X pins σ H s'->ba v w'->Q w' s') :
  wpAny (model X.prog X.w) A (getItem (.ref a) u) Q E s:=by
 rcases g with⟨kvs,k,e,ey,l⟩ | ⟨kvs,k,b,e,ey,eb,l⟩
 ·subst ey
  obtain⟨z,hd,vs,rel,dd⟩:=pI I.hok e;obtain⟨w',hw,rw'⟩:=jo.some_of (v:=v) (o:=valueAt vs k) (by rw[l];exact rel.val k);exact wpAny_getItem_of (pQ ry) dd.mapOf hw (h w' _ (I.tok _) rw')
 ·subst ey
  cases(show u=Value.ref b from ry);obtain⟨z,hd,xs,rel,dd⟩:=sG I.hok e;obtain⟨w',hw,rw'⟩:=jo.some_of (v:=v) (o:=(atKey xs k).map (·.2)) (by rw[l];exact rel.val k);obtain⟨p,hp,hp2⟩:=Hv.mp hw;refine wpAny_getItem_heap (tupleKind_room_in1 hu) (q9 I.hok eb) dd hp ?_;rw[hp2];exact h w' _ (I.tok _) rw'
theorem BI{Q:HV}(hu:A.units+1<cLine)(I:Inv X pins σ H s)(g:mE H a y o)(ry:ba y u)(h:∀s',Inv X pins σ H s'->Q (.bool (!o.isSome)) s') :
  wpAny (model X.prog X.w) A (compareOp .NotIn u (.ref a)) Q E s:=by
 rcases g with⟨kvs,k,e,ey,l⟩ | ⟨kvs,k,b,e,ey,eb,l⟩
 ·subst ey
  obtain⟨z,hd,vs,rel,dd⟩:=pI I.hok e;refine wpAny_notIn_of (pQ ry) hd dd.mapOf ?_;rw[<- (rel.val k).isSome_eq,<- l];exact h _ (I.tok _)
 ·subst ey
  cases(show u=Value.ref b from ry);obtain⟨z,hd,xs,rel,dd⟩:=sG I.hok e;refine wpAny_notIn_heap (tupleKind_room_in1 hu) (q9 I.hok eb) hd dd ?_;have q:=(rel.val k).isSome_eq;rw[Option.isSome_map]at q;rw[<- q,<- l];exact h _ (I.tok _)
theorem mW{h':Heap}{t':Nat}{ob:HO}(I:Inv X pins σ H s)(mu:Dx (H a))(hs:Heap.SameBut a s.heap h')(he:∃q,h'.get? a=some q)(new:bE X.prog X.w (au H a ob) h' a ob) :
  Inv X pins σ (au H a ob) {s with heap:=h',toks:=t' }:=
 I.write (x:=a) (e:=a) mu (.inl rfl) (λb q hb z=>(hs.2 b hb).trans z) he new
theorem vT{P:Ig}{w:Ij}{H':Hp}{h':Heap}{kvs:List (cE×V)}{vs:List (cE×Value)}(z:kvs.length<=sizeLine)(hd:(a==sysModules)=false)(rel:KV kvs vs)(dd:h'.DictOf (b9 P w) a vs) :
  bE P w H' h' a (.dK kvs):=⟨z,hd,vs,rel,dd⟩
theorem yn{H':Hp}{Q:Unit->Shared->Prop}(hu:A.units+1<cLine)(I:Inv X pins σ H s)(g:x_ H a y v H')(ry:ba y u)(rv:ba v r)(h:∀s',Inv X pins σ H' s'->Q () s') :
  wpAny (model X.prog X.w) A (setItem (.ref a) u r) Q E s:=by
 rcases g with⟨kvs,k,e,ey,l,eH⟩ | ⟨kvs,k,b,e,ey,eb,l,eH⟩
 ·subst ey eH
  obtain⟨z,hd,vs,rel,dd⟩:=zt I.hok e;have hz:vs.length<=sizeLine:=by rw[<- rel.length];exact z
  have hl:(cn kvs k v).length<=sizeLine:=by have:=f_ kvs k v;omega
  refine wpAny_setItem_pairs (hsz:=hz) (pQ ry) dd λh' dd' hs=>h _ ?_;have he:∃q,h'.get? a=some q:=let ⟨q,_,_,hq,_⟩:=dd';⟨q,hq⟩
  exact mW I (by rw[e];exact True.intro) hs he (vT hl hd (rel.put k rv) dd')
 ·subst ey eH
  cases(show u=Value.ref b from ry);obtain⟨z,hd,xs,rel,dd⟩:=DI I.hok e;have hz:xs.length<=sizeLine:=by rw[<- Paired.length rel];exact z
  have hl:(cn kvs k v).length<=sizeLine:=by have:=f_ kvs k v;omega
  refine wpAny_setItem_heap (hsz:=hz) (tupleKind_room_in1 hu) (q9 I.hok eb) dd λh' dd' hs=>h _ ?_;obtain⟨q,es,ep,hq,h2,h3,h4,_,h5⟩:=dd';refine mW I (by rw[e];exact True.intro) hs ⟨q,hq⟩ ⟨hl,hd,_,(rel.put k eb rv).keeps λc ys ec=>?_,q,es,ep,hq,h2,h3,h4,h5⟩;rw[ao (Du ec e (λz=>nomatch z))];exact ec
end
section
variable {X:Cx}{pins:HX}{σ:St}{H:Hp}{s:HZ}{a:Addr}{kvs:List (cE×V)}{k:cE}{u:Value}{A:Ii}{E:HV}
theorem Dw{Q:HV}(I:Inv X pins σ H s)(e:Rd H a (.dK kvs))(h:∀t s',Inv X pins σ H s'->Q (.int kvs.length t) s'):wpAny (model X.prog X.w) A (call (.builtin "len") [.ref a]) Q E s:=by
 obtain⟨z,hd,vs,rel,dd⟩:=pI I.hok e;refine call_len_dict hd dd (by rw[<- rel.length];rw[sizeLine_eq]at z;omega) ?_;rw[<- rel.length];exact h _ _ (I.tok _)
end
def DC(i:Expr):Prop:=∀ov iv,subscripted i false ov iv=operate [ov,iv] (getItem ov iv)
theorem Bw{prog:Ig}{w:Ij}{A:Ii}{E:HV}{s:HZ}{env:Env}{value slice:Expr}{pos:Pos}{T id:String}{Q:HV}
  (hl:typeLookup (.type T) "__getitem__"=pure (some (.builtin id))) (hs:DC slice)
  (h:wpAny (model prog w) A (eval value env) (λo s₁=>wpAny (model prog w) A (eval slice env) (λi s₂=>s₂.TypeIs o T/\wpAny (model prog w) A (getItem o i) Q E s₂) E s₁) E s) :
  wpAny (model prog w) A (eval (.Subscript value slice pos) env) Q E s:=by
 refine Subscript_ (wpAny_mono h (λo s₁ h₁=>wpAny_mono h₁ (λi s₂ h₂=>?_) λ_ _ x=>x) λ_ _ x=>x);obtain⟨hT,h₂⟩:=h₂;unfold subscriptTail;refine wpAny_bind ?_;rw[getitemInPython_of_ne hT.not_modules];refine wpAny_bind (wpAny_specialOf hT hl ?_);have fin:wpAny (model prog w) A (subscripted slice false o i) (λr s₃=>wpAny (model prog w) A (letTemporaryGo value o r >>= λ_=>pure r) Q E s₃) E s₂:=by
  rw[hs o i];exact wpAny_operating (wpAny_mono h₂ (λr s₃ h₃=>wpAny_bind (wpAny_letTemporaryGo (wpAny_pure h₃))) λ_ _ x=>x)
 first
  |exact wpAny_pure (wpAny_bind fin)
  |exact wpAny_bind (wpAny_pure (wpAny_bind fin))
  |exact wpAny_bind fin
theorem uo{X:Cx}{pins:HX}{σ:St}{H:Hp}{s:HZ}{a:Addr}{y:V}{o:Option V}(I:Inv X pins σ H s)(g:mE H a y o):s.TypeIs (.ref a) "dict":=by
 rcases g with⟨kvs,k,e,_,_⟩ | ⟨kvs,k,b,e,_,_,_⟩
 ·obtain⟨_,_,vs,_,dd⟩:=pI I.hok e
  exact dd.typeIs
 ·obtain⟨_,_,xs,_,dd⟩:=sG I.hok e
  exact dd.typeIs
noncomputable def yM(td ty:TE):TE:=λσ H Q=>td σ H λx H1=>ty σ H1 λy H2=>∃a v,x=.ref a/\mE H2 a y (some v)/\Q v H2
noncomputable def qj(ty td:TE):TE:=λσ H Q=>ty σ H λy H1=>td σ H1 λx H2=>∃a o,x=.ref a/\mE H2 a y o/\Q (.bl (!o.isSome)) H2
noncomputable def Ab(td ty tv:TE):TS:=λD σ H=>tv σ H λv H1=>td σ H1 λx H2=>ty σ H2 λy H3=>∃a H4,x=.ref a/\x_ H3 a y v H4/\D.nx σ H4
section
variable {X:Cx}{o i e value:Expr}{pos pos' tpos:Pos}{td ty tv:TE}
theorem r8(hu:X.A.units+1<cLine)(ho:PE X o td)(hi:PE X i ty)(hs:DC i):PE X (.Subscript o i pos) (yM td ty):=by
 intro pins s σ H Q I h;refine Bw PySem.F.slot_dict_getitem.lookup hs (bK (ho pins s σ H _ I h) λu s1 ⟨x,H1,I1,rx,q1⟩=>bK (hi pins s1 σ H1 _ I1 q1) λiv s2 ⟨y,H2,I2,ry,a,v,ex,g,q2⟩=>?_);subst ex;obtain rfl:u=Value.ref a:=rx;exact⟨uo I2 g,xX hu I2 g ry λw' s3 I3 rw'=>⟨v,H2,I3,rw',q2⟩⟩
theorem pk(hu:X.A.units+1<cLine)(hi:PE X i ty)(ho:PE X o td):PC X .NotIn i o (qj ty td):=by
 intro pins s σ H Q I h;refine bK (hi pins s σ H _ I h) λiv s1 ⟨y,H1,I1,ry,q1⟩=>bK (ho pins s1 σ H1 _ I1 q1) λu s2 ⟨x,H2,I2,rx,a,ov,ex,g,q2⟩=>?_;subst ex;obtain rfl:u=Value.ref a:=rx;exact BI hu I2 g ry λs3 I3=>⟨.bl (!ov.isSome),H2,I3,rfl,q2⟩
theorem wl(hu:X.A.units+1<cLine)(ho:PE X o td)(hi:PE X i ty)(hv:PE X value tv)(hs:swapsWith value (some (.Subscript o i pos')) pos.line X.env=pure false) :
  PS X (.Assign [.Subscript o i pos'] value pos) (Ab td ty tv):=by
 intro pins s σ H D I h;refine wpAny_Assign_Subscript (bK (hv pins s σ H _ I h) λr s1 ⟨v,H1,I1,rv,q1⟩=>bK (ho pins s1 σ H1 _ I1 q1) λu s2 ⟨x,H2,I2,rx,q2⟩=>bK (hi pins s2 σ H2 _ I2 q2) λiv s3 ⟨y,H3,I3,ry,a,H4,ex,g,q3⟩=>?_) hs;subst ex;obtain rfl:u=Value.ref a:=rx;exact yn hu I3 g ry rv λs4 I4=>⟨σ,H4,I4,q3⟩
end
theorem yE{P:Ig}{w:Ij}{H:Hp}(h:Heap)(hb:sysModules<h.objs.size):bE P w H (h.push {cls:=.type "dict",data:=.dict #[]}) h.objs.size (.dK []):=
 ⟨Hs _,beq_eq_false_iff_ne.mpr (Ne.symm (Hm hb)),[],.nil,Heap.DictOf.new h⟩
theorem AI{P:Ig}{w:Ij}{H:Hp}(h:Heap)(hb:sysModules<h.objs.size):bE P w H (h.push {cls:=.type "dict",data:=.dict #[]}) h.objs.size (.dT []):=
 ⟨Hs _,beq_eq_false_iff_ne.mpr (Ne.symm (Hm hb)),[],.nil,_,#[],0,Ha _ rfl,⟨rfl,rfl,rfl⟩,rfl,rfl,List.nodup_nil⟩
noncomputable def vz:TE:=λ_ H Q=>∀p,H p=none->Q (.ref p) (au H p (.dT []))
section
variable {X:Cx}{pos:Pos}
theorem tL:PE X (.Dict [] [] pos) vz:=λpins s σ H Q I h=>
 wpAny_Dict_empty ⟨.ref s.heap.objs.size,_,I.laid (a:=s.heap.objs.size) (o:=.dT []) (t':=s.toks) (λ_ _ q=>G6 _ q) (Hr _) (AI s.heap I.big),rfl,h _ (I.hok.fresh (Hr _))⟩
end
noncomputable def oK:List (TE×TE)->St->Hp->(List (V×V)->Hp->Prop)->Prop
 | [],_,H,Q=>Q [] H
 | (tk,tv)::r,σ,H,Q=>tk σ H λx H1=>tv σ H1 λy H2=>oK r σ H2 λps H3=>Q ((x,y)::ps) H3
noncomputable abbrev VV:List (V×V)->List (Value×Value)->Prop:=Paired λp q=>ba p.1 q.1/\ba p.2 q.2
def DQ(X:Cx)(pos:Pos)(keys:List (Option Expr))(values:Il)(trs:List (TE×TE)):Prop:=
 ∀(pins:HX) (s:HZ) (σ:St) (H:Hp) (Q:List (V×V)->Hp->Prop),Inv X pins σ H s->oK trs σ H Q ->
  wpAny (model X.prog X.w) X.A (evalPairs (pairTrees keys values X.env pos)) (λvs s'=>∃ps H',Inv X pins σ H' s'/\VV ps vs/\Q ps H') X.xe s
theorem AQ{X:Cx}{pos:Pos}:DQ X pos [] [] []:=λpins s σ H Q I h=>pairTrees_nil_walk ⟨[],H,I,.nil,h⟩
theorem AK{X:Cx}{pos:Pos}{k v:Expr}{ks:List (Option Expr)}{vs:Il}{tk tv:TE}{trs:List (TE×TE)}(hk:PE X k tk)(hv:PE X v tv)(hr:DQ X pos ks vs trs) :
  DQ X pos (some k::ks) (v::vs) ((tk,tv)::trs):=λpins s σ H Q I h=>
 pairTrees_cons_walk (bK (hk pins s σ H _ I h) λu s1 ⟨x,H1,I1,rx,q1⟩=>bK (hv pins s1 σ H1 _ I1 q1) λw2 s2 ⟨y,H2,I2,ry,q2⟩=>
  bK (hr pins s2 σ H2 _ I2 q2) λws s3 ⟨ps,H3,I3,rel,q3⟩=>⟨(x,y)::ps,H3,I3,.cons ⟨rx,ry⟩ rel,q3⟩)
noncomputable def oB(kvs more:List (cE×V)):List (cE×V):=more.foldl (λacc kv=>cn acc kv.1 kv.2) kvs
theorem KV.merge:∀{more:List (cE×V)} {rs:List (cE×Value)} {kvs:List (cE×V)} {vs:List (cE×Value)},KV more rs->KV kvs vs->KV (oB kvs more) (merged vs rs):=by
 intro more rs kvs vs r;unfold KV at r
 induction r generalizing kvs vs with
 |nil=>intro q;exact q
 | @cons p q ps qs h t ih=>
  intro r0;have e:KV (cn kvs p.1 p.2) (stored vs q.1 q.2):=by
   have:=r0.put p.1 h.2;rw[<- h.1];exact this
  exact ih e
theorem kb:∀(more kvs:List (cE×V)),(oB kvs more).length<=kvs.length+more.length
 | [],kvs=>by show kvs.length<=kvs.length+0;omega
 |p::r,kvs=>by
  have h1:=kb r (cn kvs p.1 p.2);have h2:=f_ kvs p.1 p.2;show(oB (cn kvs p.1 p.2) r).length<=_;rw[He];omega
theorem oM{P:Ig}{w:Ij}:∀{kvs:List (cE×V)} {ws:List (Value×Value)},VV (kvs.map λkv=>(kV kv.1,kv.2)) ws->∃rs,Carries (b9 P w) ws rs/\KV kvs rs
 | [],_,r=>by rw[List.map_nil]at r;cases r;exact⟨[],True.intro,.nil⟩
 |p::kvs,_,r=>by
  rw[Hx]at r;cases r with
  | @cons a b as bs h t=>
   obtain⟨rs,c,q⟩:=oM (P:=P) (w:=w) t;obtain⟨b1,b2⟩:=b;exact⟨(p.1,b2)::rs,⟨pQ h.1,rfl,c⟩,.cons ⟨rfl,h.2⟩ q⟩
noncomputable def yZ(trs:List (TE×TE)):TE:=λσ H Q=>∀p,H p=none->oK trs σ (au H p (.dK [])) λps H2=>H2 p=some (.dK [])/\∃kvs:List (cE×V),ps=kvs.map (λkv=>(kV kv.1,kv.2))/\kvs.length<=15/\Q (.ref p) (au H2 p (.dK (oB [] kvs)))
theorem A3{X:Cx}{pos:Pos}{keys:List (Option Expr)}{values:Il}{trs:List (TE×TE)}(h:DQ X pos keys values trs)(hall:keys.all (·.isSome)=true)(hl:keys.length=values.length)(h0:keys≠[])
  (h15:keys.length<=15):PE X (.Dict keys values pos) (yZ trs):=by
 intro pins s σ H Q I q;have hn:=I.hok.fresh (Hr s.heap.objs.size);have I1:=I.laid (a:=s.heap.objs.size) (o:=.dK []) (h':=s.heap.push {cls:=.type "dict",data:=.dict #[]}) (t':=s.toks) (λ_ _ q=>G6 _ q) (Hr _) (yE s.heap I.big);refine wpAny_Dict_walk (knd:=b9 X.prog X.w) hall hl h0 h15 (bK (h pins _ σ _ _ I1 (q _ hn)) λws s2 ⟨ps,H2,I2,rel,e,kvs,ep,lk,q2⟩=>?_);subst ep;obtain⟨rs,c,rk⟩:=oM (P:=X.prog) (w:=X.w) rel;obtain⟨z,hd,vs0,r0,dd⟩:=zt I2.hok e;cases r0;refine⟨rs,c,dd,λh' dd' hs=>⟨.ref s.heap.objs.size,_,?_,rfl,q2⟩⟩;have hz:(oB [] kvs).length<=sizeLine:=by
  have h1:=kb kvs [];rw[List.length_nil]at h1;rw[sizeLine_eq];omega
 have he:∃q,h'.get? s.heap.objs.size=some q:=let ⟨q,_,_,hq,_⟩:=dd';⟨q,hq⟩
 exact mW I2 (by rw[e];exact True.intro) hs he (vT hz hd (rk.merge .nil) dd')
structure M1(X:Cx)(o:Expr)(m:Str)(apos:Pos)(e:Expr)(cpos:Pos):Prop where
 base:attributeBase o m X.env (eval o X.env)=eval o X.env
 few:((backTo cpos (starEach [e] X.env)).all (λx=>!x.1)&&(backToKw cpos (keywordEach [] X.env)).all (λx=>x.1.isSome)
  && decide (([e]:List Expr).length+([]:List Keyword).length+(if([]:List Keyword).isEmpty then 0 else 1)<30))=true
 line:(apos.endLine==cpos.line)=true
 trees:backTo cpos (starEach [e] X.env)=[(false,eval e X.env)]
structure M2(X:Cx)(o:Expr)(m:Str)(apos:Pos)(e f:Expr)(cpos:Pos):Prop where
 base:attributeBase o m X.env (eval o X.env)=eval o X.env
 few:((backTo cpos (starEach [e,f] X.env)).all (λx=>!x.1)&&(backToKw cpos (keywordEach [] X.env)).all (λx=>x.1.isSome)
  && decide (([e,f]:List Expr).length+([]:List Keyword).length+(if([]:List Keyword).isEmpty then 0 else 1)<30))=true
 line:(apos.endLine==cpos.line)=true
 trees:backTo cpos (starEach [e,f] X.env)=[(false,eval e X.env),(false,eval f X.env)]
def EH(H:Hp)(a:Addr):Prop:=(∃kvs,Rd H a (.dK kvs))\/∃kvs,Rd H a (.dT kvs)
theorem CL{X:Cx}{pins:HX}{σ:St}{H:Hp}{s:HZ}{a:Addr}(I:Inv X pins σ H s)(d:EH H a) :
  s.TypeIs (.ref a) "dict"/\(∀b,Value.ref a=.ref b->∃ob,s.heap.get? b=some ob/\ob.dict=none)/\(a==sysModules)=false:=by
 rcases d with⟨kvs,e⟩ | ⟨kvs,e⟩
 ·obtain⟨_,hd,vs,_,dd⟩:=pI I.hok e
  refine⟨dd.typeIs,λb q=>?_,hd⟩;cases q;obtain⟨ob,_,_,h1,h2,_⟩:=dd;exact⟨ob,h1,h2.2.1⟩
 ·obtain⟨_,hd,xs,_,dd⟩:=sG I.hok e
  refine⟨dd.typeIs,λb q=>?_,hd⟩;cases q;obtain⟨ob,_,_,h1,h2,_⟩:=dd;exact⟨ob,h1,h2.2.1⟩
section
variable {X:Cx}{pins:HX}{σ:St}{H:Hp}{s:HZ}{a:Addr}{y d:V}{u r:Value}{o:Option V}{A:Ii}{E:HV}
end
section
variable {X:Cx}{o e f:Expr}{apos cpos:Pos}{td ty tx:TE}
end
section
variable {X:Cx}{pins:HX}{σ:St}{H:Hp}{s:HZ}{a:Addr}{kvs:List (cE×V)}{A:Ii}{E:HV}
end
section
variable {X:Cx}{pins:HX}{σ:St}{H:Hp}{s:HZ}{a:Addr}{y:V}{u:Value}{A:Ii}{E:HV}
end
end L2
namespace Att
open PySem PySem.W PySem.Calls PyProof.Rows
theorem mF{P:Params}{h:Heap}:∀(ns:List Int) (vs:Ia),WellAll P h vs (ns.map WData.int)->IntsAre vs ns:=by
 intro ns
 induction ns with
 |nil=>
  intro vs w;rw[List.map_nil]at w;cases w;exact .nil
 |cons n ns ih=>
  intro vs w;rw[Hx]at w;cases w with
  |cons a b=>
   cases a;exact .cons _ _ (ih _ b)
theorem ye{l:OpenLaw}{n:Nat}(hn:l.most=some n){P:Params}{h:Heap}{args:List WData}{vals:Ia}
  (hpre:l.row.toRowW.claim.pre args=true) (hwl:WellAll P h vals args) :
  ∃a vs ns,vals=[Value.ref a]/\args=[WData.list (ns.map WData.int)]/\h.get? a=some {cls:=.type "list",data:=.seq vs.toArray}/\IntsAre vs ns/\ns.length<=n:=by
 have hsh:WShape.hasAll [] args [.list .int]=true:=(pre_splitW hpre).1;have hc:l.pre.holds [] {args:=args}=true:=(pre_splitW hpre).2;obtain⟨d,r,rfl,h1,h2⟩:=hasAllW_cons hsh;obtain rfl:=hasAllW_nil h2;obtain⟨xs,rfl,h3⟩:=hasW_list h1;obtain⟨ns,rfl⟩:=items_int h3;have hlen:ns.length<=n:=by
  unfold OpenLaw.pre at hc;have h4:(WTm.not (.lt (.lit (.int (n:Int))) (.len (.arg 0)))).holds [] {args:=[.list (ns.map .int)]}=true:=by
   have h4:=(holds_andW hc).1;rw[hn]at h4;exact h4
  have h5:=condW_of h4 (w_not (w_lt w_lit (w_len_list (w_arg rfl))));rw[G7]at h5;refine Nat.le_of_not_lt λq=>?_;have q':(n:Int)<((ns.length:Nat):Int):=by omega
  first
   | (rw[decide_eq_true q']at h5;exact absurd h5 nofun)
   | (simp at h5;omega)
 cases hwl with
 |cons w1 w2=>
  cases w2;cases w1 with
  |list ho hall=>exact⟨_,_,ns,rfl,rfl,ho,mF ns _ hall,hlen⟩
theorem xm(l:OpenLaw)(args:List WData):l.row.toRowW.claim.post args (.bool true) args=true:=
 postW_of (r:=l.row.toRowW) (X:=(true==true))
  (show WShape.has [] (.bool true) .bool=true by first | rfl | decide | simp[WShape.has,WShape.arms,WShape.armsAll])
  (show(WTm.eq .res (.lit (.bool true))).value [] {args:=args,res:=some (.bool true),after:=args}=some (.bool (true==true)) from w_eq_bool (w_res rfl) w_lit) rfl
theorem attach_call{l:OpenLaw}{n:Nat}{q:Ig}{loose:Ih}{XP:(Str->Option Value)->Heap->Prop}{YP:World->Heap->Prop}{d:DefRec}
  (hn:l.most=some n) (hdf:d.params.defaults=[])
  (call:∀(w:Ij) (s₀ s₁:HZ) (mg mb:Ic) (fa:Addr) (o:Obj) (pm cd doc:Value) (a:Addr) (vs:Ia) (ns:List Int),
   Ground q loose [] XP w s₀ mg mb s₁.heap->YP w s₁.heap ->
   s₁.heap.get? fa=some o->o.data=.func (docDef d.name d.params d.body d.scope pm cd doc)->s₁.heap.CodeRec cd d.name->mg d.name=some (.ref fa) ->
   s₁.heap.get? a=some {cls:=.type "list",data:=.seq vs.toArray}->IntsAre vs ns->ns.length<=n->s₁.gens=#[] ->
   codeAny (model l.prog w) callerA (.call (.ref fa) ⟨[.ref a],[]⟩) (λr s'=>r=.ok (.ret (.bool true))/\OldK s₁.heap s'.heap/\s'.os=s₁.os/\AllBare s'.gens) s₁) :
  WalkO q loose XP YP l.row.toRowW d [] (λf vs=>PySem.call f vs):=by
 intro w s₀ s₁ mg mb G Y fa o pm cd doc dV kV ho hd hcd hD hmg hg args vals as hpre hlay hrd hwl hlo;obtain rfl:dV=.none:=Dflts.none hD hdf;obtain rfl:kV=.none:=Dflts.noKw hD;obtain⟨a,vs,ns,rfl,rfl,hobj,hints,hlen⟩:=ye hn hpre hwl;refine enter_call (codeAny_mono (call w s₀ s₁ mg mb fa o pm cd doc a vs ns G Y ho (fd_plain hd) hcd hmg hobj hints hlen hg) λr s' hq=>?_);obtain⟨rfl,h2,h3,h4⟩:=hq;exact⟨.inl ⟨.bool true,.bool true,[],rfl,λ_=>rfl,.bool true,xm l _,λ_=>⟨List.Pairwise.nil,λ_ hm=>(nomatch hm)⟩⟩,h2,h3,h4⟩
section
variable {prog:Ig}{w:Ij}{A:Ii}{E:HV}{s:HZ}{K:Frag}
noncomputable def Er(h:Heap)(L d:Addr):List (Addr×Obj):=(List.range h.objs.size).filterMap λa=>if a=L\/a=d then none else(h.get? a).map λo=>(a,o)
end
end Att
namespace L2
open PySem PySem.Spec PyProof.Rows
theorem pL:∀{vs:Ia} {ns:List Int},IntsAre vs ns->aT (ns.map V.int) vs
 |_,_,.nil=>.nil
 |_,_,.cons n t h=>.cons ⟨t,rfl⟩ (pL h)
def Cz(H:Hp):Prop:=∀b,H b=none\/∃o xs,H b=some (.frz o (.lst xs))
theorem Ag{P:Ig}{w:Ij}{K:HW}{mg mb:Ic}{CX:j9}{k:Nat}{fa a:Addr}{fd:Ie}{x:Str}{sp:Sp}{s₁:HZ}{vs:Ia}{ns:List Int}
  (KX:K.In s₁.heap) (hns:s₁.heap.Ns mainGlobals mg) (hb:s₁.heap.Ns builtinsNs mb) (hbb:∀x:Str,x≠"__name__"->mb x=bootBuiltins x) (hlim:s₁.heap.NoLimit) (hg:s₁.gens=#[])
  (ha:s₁.heap.get? a=some {cls:=.type "list",data:=.seq vs.toArray}) (hi:IntsAre vs ns) (hl:ns.length<=sizeLine) (hr:cF k callerA)
  (F:∀base:Heap,K.In base->base.Ns mainGlobals mg->aZ P w K mg base CX k fa fd [x] sp) (hbind:∀(s:HZ) (u:Value),BindsTo s fd ⟨[u],[]⟩ [(x,u)])
  (hsp:∀H:Hp,Cz H->aN K H a (ns.map V.int)->sp [.ref a] H (λv _=>v=.bl true) λ_ _ _=>False)
  (hCX:∀H e s',CX [] H s₁ (λ_ _ _=>False) e s'->False) :
  codeAny (model P w) callerA (.call (.ref fa) ⟨[.ref a],[]⟩) (λr s'=>r=.ok (.ret (.bool true))/\OldK s₁.heap s'.heap/\s'.os=s₁.os/\AllBare s'.gens) s₁:=by
 have rv:=pL hi;have lenV:=hi.length
 -- from an abstract heap in which nothing but the script may be tracked
 have core:∀H:Hp,Cz H->aN K H a (ns.map V.int)->jZ P w H s₁.heap->(∀b,H b≠none->b=a)->(H a≠none->K.lookup a=none) ->
   codeAny (model P w) callerA (.call (.ref fa) ⟨[.ref a],[]⟩) (λr s'=>r=.ok (.ret (.bool true))/\OldK s₁.heap s'.heap/\s'.os=s₁.os/\AllBare s'.gens) s₁:=by
  intro H hO hS hok hA hK;have base_of:∀{b:Addr} {o:Obj},s₁.heap.get? b=some o->H b=none->(sf s₁.heap H).get? b=some o:=λe n=>yL e n;have noA:∀{b:Addr} {o:Obj} {es:Array DictEntry} {ep:Nat},s₁.heap.get? b=some o->o.data=.dict es ep->H b=none:=fun{b o es ep} e d=>by
   cases q:H b with
   |none=>rfl
   |some u=>
    have e':b=a:=hA b (by rw[q];simp);subst e';rw[ha]at e;cases e
    have d':Data.seq vs.toArray _=Data.dict es ep:=d;cases d'
  have nsK:∀{b:Addr} {m:Ic},s₁.heap.Ns b m->(sf s₁.heap H).Ns b m:=fun{b m} ⟨o,es,ep,e,d,r⟩=>⟨o,es,ep,base_of e (noA e d),d,r⟩;have hKb:K.In (sf s₁.heap H):=λb o e=>base_of (KX b o e) (by
   cases q:H b with
   |none=>rfl
   |some u=>
    have e':b=a:=hA b (by rw[q];simp);subst e';rw[hK (by rw[q];simp)]at e;cases e)
  have hM:Mod K mg (sf s₁.heap H):=⟨hKb,nsK hns,⟨mb,nsK hb,hbb⟩,let ⟨mc,h1,h2⟩:=hlim;⟨mc,nsK h1,h2⟩⟩;have e0:tD P w K mg (sf s₁.heap H) callerA [] s₁ H:=⟨rfl,hM,λb o e=>BD e,Nat.le_of_eq (xz _ _),trivial,λb hb=>absurd (show b∈([]:List Addr) from hb) (by simp),hok,.of_eq hg⟩;refine codeAny_mono ((F _ hKb (nsK hns)).run callerA [] s₁ H ⟨[.ref a],[]⟩ [.ref a] [.ref a] _ _ hr e0 (hbind s₁ (.ref a)) (.cons rfl .nil) (hsp H hO hS)) λr s' h=>?_;cases r with
  |error e=>exact(hCX H e s' h).elim
  |ok fl=>
   cases fl with
   |next=>exact False.elim h
   |brk=>exact False.elim h
   |cont=>exact False.elim h
   |ret u=>
    obtain⟨v,H',os,bare,un,hok',r',q⟩:=h;have q':v=.bl true:=q;subst q';obtain rfl:u=Value.bool true:=r';refine⟨rfl,OldK.of_keep λb o e=>?_,os,bare⟩;cases q:H b with
    |none=>exact un.keep b o e q (by intro z;exact absurd (show b∈([]:List Addr) from z) (by simp)) (by simp)
    |some u=>
     rcases hO b with z | ⟨ob,xs,z⟩
     ·rw[q]at z;cases z
     ·have z2:=un.frzs b ob _ z
      obtain⟨e1,_⟩:=hok b _ z;obtain⟨e2,_⟩:=hok' b _ z2;rw[e]at e1;cases e1
      exact e2
 cases hk:K.lookup a with
 |some o=>
  -- the script is one of the module's own objects
  have e:=KX a o hk;rw[ha]at e;cases e;refine core (λ_=>none) (λ_=>.inl rfl) (.inr ⟨_,vs.toArray,_,hk,rfl,rfl,rfl,by rw[Hb,lenV];exact hl,by simpa using rv⟩) (λb u z=>by have z':(none:Option HO)=some u:=z;cases z') (λb z=>absurd rfl z) λz=>absurd rfl z
 |none=>
  refine core (λb=>if b=a then some (.frz {cls:=.type "list",data:=.seq vs.toArray} (.lst (ns.map V.int))) else none) (λb=>?_) (.inl (.inr ⟨{cls:=.type "list",data:=.seq vs.toArray},if_pos rfl⟩)) (λb u z=>?_) (λb z=>?_) λ_=>hk
  ·by_cases hb:b=a
   ·exact .inr ⟨_,_,if_pos hb⟩
   ·exact .inl (if_neg hb)
  ·by_cases hb:b=a
   ·have z':=(if_pos hb).symm.trans z
    cases z';subst hb;exact⟨ha,by rw[G7];exact hl,vs,_,rv,ha⟩
   ·have z':=(if_neg hb).symm.trans z
    cases z'
  ·by_cases hb:b=a
   ·exact hb
   ·exact absurd (if_neg hb) z
theorem walk_of{l:PySem.W.OpenLaw}{n k:Nat}{q:Ig}{loose:Ih}{XP:(Str->Option Value)->Heap->Prop}{YP:World->Heap->Prop}{d:DefRec}{K:Params->PySem.W.Frag}{CX:World->j9}{sp:World->Sp}{x:Str}
  (hn:l.most=some n) (hn2:n<=sizeLine) (hdf:d.params.defaults=[]) (hr:cF k callerA)
  (hY:∀(w:Ij) (h:Heap),YP w h->(K w.params).In h)
  (F:∀(w:Ij) (mg:Ic) (fa:Addr) (h:Heap),(K w.params).In h->h.Ns mainGlobals mg->mg d.name=some (.ref fa) ->
   ∃fd:FuncData,(∀(s:HZ) (u:Value),BindsTo s fd ⟨[u],[]⟩ [(x,u)]) /\
    ∀base:Heap,(K w.params).In base->base.Ns mainGlobals mg->aZ l.prog w (K w.params) mg base (CX w) k fa fd [x] (sp w))
  (hsp:∀(w:Ij) (H:Hp) (a:Addr) (ns:List Int),ns.length<=n->Cz H->aN (K w.params) H a (ns.map V.int)->sp w [.ref a] H (λv _=>v=.bl true) λ_ _ _=>False)
  (hCX:∀(w:Ij) (H:Hp) (s:HZ) (e:Value) (s':HZ),CX w [] H s (λ_ _ _=>False) e s'->False) :
  PySem.W.WalkO q loose XP YP l.row.toRowW d [] (λf vs=>PySem.call f vs):=by
 refine Att.attach_call hn hdf λw s₀ s₁ mg mb fa o pm cd doc a vs ns G Y ho hd hcd hmg hobj hints hlen hg=>?_;have KX:=hY w _ Y;obtain⟨fd,hb,hF⟩:=F w mg fa _ KX G.T.g hmg;exact Ag KX G.T.g G.T.b G.T.builtins G.T.nolimit hg hobj hints (Hy hlen hn2) hr hF hb (λH hO hS=>hsp w H a ns hlen hO hS) λH e s'=>hCX w H s₁ e s'
noncomputable def aX(s:Stmt):Arguments:=match s with
 | .FunctionDef _ a _ _ _ _ _ _ _ _=>a
 |_=>{posonlyargs:=[],args:=[],vararg:=none,kwonlyargs:=[],kw_defaults:=[],kwarg:=none,defaults:=[]}
noncomputable def aP(s:Stmt):List Stmt:=match s with
 | .FunctionDef _ _ b _ _ _ _ _ _ _=>b
 |_=>[]
noncomputable def ak(s:Stmt):Scope:=match s with
 | .FunctionDef _ _ _ _ _ _ sc _ _ _=>sc
 |_=>{kind:=.function,names:=[],isGenerator:=false,isCoroutine:=false}
noncomputable abbrev bF:j9:=λ_ _ _ _ _ _=>False
noncomputable abbrev E0:XK:=λ_ _ _=>False
theorem bg{X:Cx}:cG bF X E0:=λ_ _ _ _ _ _ _ h=>h.elim
structure cY(K:HW)(x qual:Str)(st:Stmt)(f:Addr)(fd:Ie):Prop where
 ex:∃(oc:Value) (od:Ik) (kV doc pm:Value) (an:Ik) (cdv ct:Value) (osl:Array (Option Value)),
  fd=PySem.W.fnOf x qual (aX st) (aP st) (ak st) .none kV doc pm an cdv ct/\K.lookup f=some ⟨oc,od,.func fd,osl⟩/\PySem.W.codeIn K cdv qual=true
 kp:PySem.W.keepIn K (.ref f)=true
section
variable {P:Ig}{w:Ij}{K:HW}{mg:Ic}{base:Heap}
theorem cY.ok{x qual:Str}{st:Stmt}{f:Addr}{fd:Ie}{N ps:Ih}{k:Nat}{sp:Sp}(F:cY K x qual st f fd)(S:ay N ps (ak st))(len:∀vs H Q E,sp vs H Q E->vs.length=ps.length)
  (hbody:∀(cdv:Value) (A:Ii) (outer:List Env) (s:HZ) (H:Hp) (vs:List V) (Q:VK) (E:XK),cF k (A.deeper (envOfC qual (ak st) s.heap.objs.size f cdv))->sp vs H Q E ->
   ∃t,ut (fJ bF P w K mg base N qual (ak st) f cdv A outer s H E).nox (aP st) t/\t {nx:=λ_ H'=>Q .non H',rt:=Q} (start N vs) H):aZ P w K mg base bF (k+1) f fd ps sp:=by
 obtain⟨oc,od,kV,doc,pm,an,cdv,ct,osl,rfl,lk,hcd⟩:=F.ex;refine B4 lk hcd S len λA outer s H vs Q E hr hsp=>?_;obtain⟨t,h,q⟩:=hbody cdv A outer s H vs Q E hr hsp;exact⟨t,h.nox,q⟩
theorem cY.binds{x qual:Str}{st:Stmt}{f:Addr}{fd:Ie}{ps:Ih}(F:cY K x qual st f fd)
  (h:∀(kV doc pm:Value) (an:Ik) (cdv ct:Value) (us:Ia),us.length=ps.length->bindArgs (PySem.W.fnOf x qual (aX st) (aP st) (ak st) .none kV doc pm an cdv ct) ⟨us,[]⟩=pure (ps.zip us)):cV K fd ps []:=by
 obtain⟨oc,od,kV,doc,pm,an,cdv,ct,osl,rfl,lk,hcd⟩:=F.ex;exact .all (h kV doc pm an cdv ct)
theorem bB{x qual:Str}{st:Stmt}{f:Addr}{oc:Value}{od an:Ik}{osl:Array (Option Value)}{kV doc pm cdv ct:Value}(l:K.lookup f=some ⟨oc,od,.func (PySem.W.fnOf x qual (aX st) (aP st) (ak st) .none kV doc pm an cdv ct),osl⟩)
  (c:PySem.W.codeIn K cdv qual=true) (k:PySem.W.keepIn K (.ref f)=true):cY K x qual st f (PySem.W.fnOf x qual (aX st) (aP st) (ak st) .none kV doc pm an cdv ct):=⟨⟨oc,od,kV,doc,pm,an,cdv,ct,osl,rfl,l,c⟩,k⟩
end
section
variable {X:Cx}
theorem pv(i:Nat){x:Str}{pos:Pos}(hN:autoParam (X.N[i]?=some x) zz0._auto_1)(hv:autoParam (DX X.env.scope x) zz5._auto_1)(hd:autoParam ((x==("__debug__":Str))=false) zz1._auto_1)
  (hcd:autoParam ((x==("__classdict__":Str))=false) zz1._auto_1):PE X (.Name x pos) (uJ i):=C4 hN hv hd hcd
theorem pR:ft X (.builtin "len") (λxs H Q=>∃a kvs,xs=[V.ref a]/\H a=some (.dK kvs)/\Q (.int kvs.length) H):=by
 intro pins s σ H xs us Q I r h;obtain⟨a,kvs,rfl,ha,q⟩:=h;obtain⟨u,rfl,ru⟩:=nr r;cases ru;exact Dw I (.inl ha) λt s' I'=>⟨.int kvs.length,H,I',⟨t,rfl⟩,q⟩
end
def az(H H':Hp):Prop:=∀b o,H b=some o->H' b=some o
theorem az.refl(H:Hp):az H H:=λ_ _ h=>h
theorem az.trans{H H1 H2:Hp}(a:az H H1)(b:az H1 H2):az H H2:=λc o h=>b c o (a c o h)
theorem az.free{H H':Hp}(e:az H H'){l:Addr}(h:H' l=Option.none):H l=Option.none:=by
 cases q:H l with
 |none=>rfl
 |some o=>
  rw[e l o q]at h;cases h
theorem az.seq{K:HW}{H H':Hp}{a:Addr}{xs:List V}(e:az H H')(h:aN K H a xs):aN K H' a xs:=by
 rcases h with(h | ⟨o,h⟩) | h
 ·exact .inl (.inl (e _ _ h))
 ·exact .inl (.inr ⟨o,e _ _ h⟩)
 ·exact .inr h
section
variable {κ:Type}[DecidableEq κ]
theorem sY{kvs:List (κ×V)}{k:κ}(h:bO kvs k=none):¬ k∈kvs.map (·.1):=by
 intro m;obtain⟨p,hp,e⟩:=HJ.mp m;have q:(kvs.any λkv=>decide (kv.1=k))=true:=List.any_eq_true.mpr ⟨p,hp,decide_eq_true e⟩;rw[dW,h]at q;exact absurd q (by simp)
theorem Bp{kvs:List (κ×V)}{k:κ}{v:V}(h:bO kvs k=some v):k∈kvs.map (·.1):=by
 have q:(kvs.any λkv=>decide (kv.1=k))=true:=by
  rw[dW,h]
  all_goals rfl
 obtain⟨p,hp,e⟩:=List.any_eq_true.mp q;exact HJ.mpr ⟨p,hp,of_decide_eq_true e⟩
theorem wb:∀{l:List κ} {k:κ},l.Nodup->¬ k∈l->(l++[k]).Nodup
 | [],k,_,_=>by simp
 |a::r,k,h,hk=>by
  obtain⟨h1,h2⟩:=List.nodup_cons.mp h;show(a::(r++[k])).Nodup;refine List.nodup_cons.mpr ⟨λm=>?_,wb h2 λm=>hk (Hi.mpr (Or.inr m))⟩;rcases Hg.mp m with q | q
  ·exact h1 q
  ·exact hk (Hi.mpr (Or.inl (G8.mp q).symm))
theorem BR{kvs:List (κ×V)}{k:κ}(v:V)(hn:(kvs.map (·.1)).Nodup)(h:bO kvs k=none):((cn kvs k v).map (·.1)).Nodup:=by
 rw[nL v h,Hf];exact wb hn (sY h)
end
end L2
namespace PySem
open Sem (wp)
open Builtin Builtin.Str Builtin.Int
namespace F
theorem lB:Manifest.owners.lookup "reversed"=some Manifest.sig_reversed:=by kernel_rfl
theorem slot_rvs_next:Slot "reversed" "__next__" "reversed.__next__":=
 .of (owner:="reversed") (n:="__next__") (by rw[typeLookup_type,builtinLookup_eq_fast];kernel_rfl) (by decide +kernel) (by decide +kernel) (by decide +kernel)
  (by first | exact .inl (by decide +kernel) | exact .inr (by decide +kernel)) (by rw[isSubtype_type];kernel_rfl)
theorem entry_rvs_next:entryFor table "reversed.__next__"=some Builtin.«reversed.__next__»:=entryFor_of_tree (by kernel_rfl)
theorem slot_rvs_iter:Slot "reversed" "__iter__" "reversed.__iter__":=
 .of (owner:="reversed") (n:="__iter__") (by rw[typeLookup_type,builtinLookup_eq_fast];kernel_rfl) (by decide +kernel) (by decide +kernel) (by decide +kernel)
  (by first | exact .inl (by decide +kernel) | exact .inr (by decide +kernel)) (by rw[isSubtype_type];kernel_rfl)
theorem nolen_rvs:typeLookup (.type "reversed") "__len__"=pure none:=by rw[typeLookup_type,builtinLookup_eq_fast];kernel_rfl
theorem hint_rvs:typeLookup (.type "reversed") "__length_hint__"=pure (some (.builtin "reversed.__length_hint__")):=by rw[typeLookup_type,builtinLookup_eq_fast];kernel_rfl
theorem args_rvs_next_1(a:Value):argsOk "reversed.__next__" ⟨[a],[]⟩:=by
 unfold argsOk;rw[signature?_of (id:="reversed.__next__") (n:=['_','_','t','x','e','n','_','_']) (o:=['d','e','s','r','e','v','e','r']) (by kernel_rfl) lB];kernel_rfl
theorem args_rvs_iter_1(a:Value):argsOk "reversed.__iter__" ⟨[a],[]⟩:=by
 unfold argsOk;rw[signature?_of (id:="reversed.__iter__") (n:=['_','_','r','e','t','i','_','_']) (o:=['d','e','s','r','e','v','e','r']) (by kernel_rfl) lB];kernel_rfl
theorem entry_rvs_iter:entryFor table "reversed.__iter__"=some Builtin.«dict_keyiterator.__iter__»:=
 entryFor_alias (id':="dict_keyiterator.__iter__") (by kernel_rfl) (by first | rfl | decide +kernel | (unfold String.splitOn;simp +decide [String.splitOnAux])) (by decide +kernel) (by kernel_rfl)
theorem slot_rvs_hint:Slot "reversed" "__length_hint__" "reversed.__length_hint__":=
 .of (owner:="reversed") (n:="__length_hint__") (by rw[typeLookup_type,builtinLookup_eq_fast];kernel_rfl) (by decide +kernel) (by decide +kernel) (by decide +kernel)
  (by first | exact .inl (by decide +kernel) | exact .inr (by decide +kernel)) (by rw[isSubtype_type];kernel_rfl)
theorem entry_rvs_hint:entryFor table "reversed.__length_hint__"=some Builtin.«reversed.__length_hint__»:=entryFor_of_tree (by kernel_rfl)
theorem args_rvs_hint_1(a:Value):argsOk "reversed.__length_hint__" ⟨[a],[]⟩:=by
 unfold argsOk;rw[signature?_of (id:="reversed.__length_hint__") (n:=['_','_','t','n','i','h','_','h','t','g','n','e','l','_','_']) (o:=['d','e','s','r','e','v','e','r']) (by kernel_rfl) lB];kernel_rfl
end F
section
variable {prog:Ig}{w:Ij}{A:Ii}{E:HV}{s:HZ}
noncomputable def vi(x:Str)(t:Tok)(i:Int):Obj:={cls:=.type "reversed",data:=.fields #[.str x t,rawInt i]}
def Heap.IsRvs(h:Heap)(a:Addr)(x:Str)(t:Tok)(i:Int):Prop:=∃o,h.get? a=some o/\o.cls=.type "reversed"/\o.data=.fields #[.str x t,rawInt i]
theorem Heap.IsRvs.typeIs{a:Addr}{x:Str}{t:Tok}{i:Int}(y:s.heap.IsRvs a x t i):s.TypeIs (.ref a) "reversed":=let ⟨o,ho,hc,_⟩:=y;⟨o,ho,hc⟩
theorem Heap.IsRvs.at{h h':Heap}{a:Addr}{x:Str}{t:Tok}{i:Int}(y:h.IsRvs a x t i)(e:∀o,h.get? a=some o->h'.get? a=some o):h'.IsRvs a x t i:=let ⟨o,ho,r⟩:=y;⟨o,e _ ho,r⟩
theorem iD{it:Addr}{x:Str}{t:Tok}{i c:Nat}{Q:Option Value->Shared->Prop}(hit:s.heap.IsRvs it x t (i:Int))(hx:x.cps[i]?=some c)(hsz:i<2 ^ 63)
  (hQ:∀h' tk tk',h'.IsRvs it x t ((i:Int)-1)->Heap.SameBut it s.heap h'->Q (some (.str ⟨#[c]⟩ tk)) {s with heap:=h',toks:=tk' }):wpAny (model prog w) A (pyNext (.ref it)) Q E s:=by
 obtain⟨o,ho,hc,hd⟩:=id hit;have hlen:i<x.length:=(Array.getElem?_eq_some_iff.mp hx).1;unfold pyNext;refine wpAny_bind (wpAny_attempt (wpAny_callSpecial?_slot (name:=Str.ofString "__next__") hit.typeIs F.slot_rvs_next
  (wpAny_call_entry F.slot_rvs_next hit.typeIs F.entry_rvs_next ?_ (F.args_rvs_next_1 _))))
 unfold Builtin.«reversed.__next__»;refine wpAny_bind (wpAny_of_eq (a:=(Value.ref it,[])) rfl ?_)
 try dsimp only
 refine wpAny_bind (wpAny_field ho hd (x:=.str x t) rfl ?_);refine wpAny_bind (wpAny_field ho hd (x:=rawInt (i:Int)) rfl ?_);show wpAny _ _ (if(i:Int)<0 then _ else _) _ _ s;rw[if_neg ⋯];refine wpAny_bind (wpAny_specialOf (typeIs_str s x t) F.slot_str_getitem.lookup ?_)
 try dsimp only
 first
 |rw[if_neg (show ¬ ((some (Value.builtin "str.__getitem__")).isNone=true) from Ht)]
 |skip
 refine wpAny_bind (wpAny_mkInt ?_);refine wpAny_bind (wpAny_attempt ?_);have hb:(seqIndex? (i:Int) x.length).bind (x.cps[·]?)=some c:=by
  have e:seqIndex? (i:Int) x.length=some i:=by
   have hn:¬ ((i:Int)<0):=by omega
   unfold seqIndex?;simp[hn,hlen]
  rw[e];exact hx
 refine P.getItem_str (c:=c) (by simp;omega) hb ?_;dsimp only;refine wpAny_bind (wpAny_field ho hd (x:=rawInt (i:Int)) rfl ?_);show wpAny _ _ (setField (Value.ref it) 1 (rawInt ((i:Int)-1)) >>= λ_=>ret (Value.str ⟨#[c]⟩ _)) _ _ _;refine wpAny_bind (wpAny_setField ho hd (by simp) ?_);refine wpAny_pure ⟨_,rfl,wpAny_pure (hQ _ _ _ ?_ (Heap.SameBut.update ..))⟩;exact⟨_,Hd _ ho (Obj.isFreed_of_fields (Obj.data_mapFields hd _)),(Obj.cls_mapFields ..).trans hc,by
  rw[Obj.data_mapFields hd];simp⟩
theorem jb{it:Addr}{x:Str}{t:Tok}{Q:Option Value->Shared->Prop}(hh:A.handled=none)(hit:s.heap.IsRvs it x t (-1))
  (hQ:∀h',Heap.ExtBut it s.heap h'->Q none {s with heap:=h' }):wpAny (model prog w) A (pyNext (.ref it)) Q E s:=by
 obtain⟨o,ho,hc,hd⟩:=id hit;unfold pyNext;refine wpAny_bind (wpAny_attempt (wpAny_callSpecial?_slot (name:=Str.ofString "__next__") hit.typeIs F.slot_rvs_next
  (wpAny_call_entry F.slot_rvs_next hit.typeIs F.entry_rvs_next ?_ (F.args_rvs_next_1 _))))
 unfold Builtin.«reversed.__next__»;refine wpAny_bind (wpAny_of_eq (a:=(Value.ref it,[])) rfl ?_)
 try dsimp only
 refine wpAny_bind (wpAny_field ho hd (x:=.str x t) rfl ?_);refine wpAny_bind (wpAny_field ho hd (x:=rawInt (-1)) rfl ?_);show wpAny _ _ (if(-1:Int)<0 then _ else _) _ _ s;rw[if_pos nofun];refine wpAny_bind (wpAny_rule ?_);show wpAny _ _ ((setField (Value.ref it) 1 (rawInt (-1)) >>= λ_=>setField (Value.ref it) 0 .none) >>= _) _ _ _;refine wpAny_bind (wpAny_bind (wpAny_setField ho hd (by simp) ?_));have ho1:=Hd (Obj.mapFields (·.setIfInBounds 1 (rawInt (-1)))) ho (Obj.isFreed_of_fields (Obj.data_mapFields hd _));refine wpAny_setField ho1 (Obj.data_mapFields hd _) (by simp) ?_;dsimp only;show wpAny _ _ (SmallTypes.stopIteration >>= _) _ _ _;refine wpAny_bind ?_;unfold SmallTypes.stopIteration
 first
 |show wpAny _ _ (newExc (.type "StopIteration") [] >>= _) _ _ _
 | (refine wpAny_bind ?_;show wpAny _ _ (newExc (.type "StopIteration") [] >>= _) _ _ _)
 refine wpAny_bind ?_;simp only[newExc,newTuple];refine wpAny_bind (wpAny_newObj_type ?_ (by size_fits));refine wpAny_bind (m:=firstArgMember _ _) (wpAny_of_eq (a:=Value.none) (by first | rfl | (simp only[firstArgMember];rfl)) ?_);refine wpAny_newObj_type ?_ (by size_fits);simp only[raiseNew];refine wpAny_bind (wpAny_handled ?_)
 first | rw[show A.in1.handled=none from hh] | rw[hh]
 refine wpAny_bind (wpAny_pure (wpAny_throw ?_));refine wpAny_bind (wpAny_isInstance (T:="StopIteration") (b:=true) ⟨_,Ha _ rfl,rfl⟩ isSubtype_stop ?_);refine wpAny_pure (hQ _ ?_);intro b ob hb eb;exact G6 _ (G6 _ ((G' _ _ (Ne.symm hb)).trans ((G' _ _ (Ne.symm hb)).trans eb)))
theorem gO{it:Addr}{x:Str}{t:Tok}{i:Int}{Q:HV}(hit:s.heap.IsRvs it x t i)(h:Q (.ref it) s):wpAny (model prog w) A (pyIter (.ref it)) Q E s:=by
 refine wpAny_pyIter_slot hit.typeIs F.slot_rvs_iter (wpAny_call_entry F.slot_rvs_iter hit.typeIs F.entry_rvs_iter ?_ (F.args_rvs_iter_1 _));show wpAny _ _ (ret (.ref it)) _ _ s;exact wpAny_pure ⟨_,rfl,"reversed",_,hit.typeIs,F.slot_rvs_next.lookup,h⟩
theorem hint_rvs{it:Addr}{x:Str}{t:Tok}{i:Int}{Q:HV}(hit:s.heap.IsRvs it x t i)(hi:i<x.length)(hz:x.length<=sizeLine)
  (h:∀u tk,s.toks<=tk->Q (.int (i+1) u) {s with toks:=tk}):wpAny (model prog w) A (call (.builtin "reversed.__length_hint__") [.ref it]) Q E s:=by
 obtain⟨o,ho,hc,hd⟩:=id hit;refine wpAny_call_entry F.slot_rvs_hint hit.typeIs F.entry_rvs_hint ?_ (F.args_rvs_hint_1 _);unfold Builtin.«reversed.__length_hint__»;refine wpAny_bind (wpAny_of_eq (a:=Value.ref it) rfl ?_);refine wpAny_bind (wpAny_field ho hd (x:=.str x t) rfl ?_);show wpAny _ _ (if(Value.str x t==Value.none)=true then _ else _) _ _ s;rw[if_neg (show ¬ ((Value.str x t==Value.none)=true) from λz=>by cases(eq_of_beq z))];have hs:sizeLine=16777216:=sizeLine_eq;refine wpAny_bind (P.len_str ⋯ ?_);refine wpAny_bind (m:=asInt? _) (wpAny_pure ?_);dsimp only;refine wpAny_bind (wpAny_field ho hd (x:=rawInt i) rfl ?_);show wpAny _ _ (if(x.length:Int)<i+1 then _ else _) _ _ _;rw[if_neg ⋯];show wpAny _ _ (mkInt (i+1) >>= λv=>ret v) _ _ _;exact wpAny_bind (wpAny_mkInt (wpAny_pure ⟨_,rfl,h _ _ (by simp;omega)⟩))
theorem Walks.rvs{A:Ii}(hh:A.handled=none)(I:Addr)(x:Str)(t:Tok)(hz:x.length<=sizeLine) :
  Walks prog w A I [I] [I] x.length (λi v=>∃c tk,x.cps[x.length-1-i]?=some c/\v=.str ⟨#[c]⟩ tk) (λi h=>i<=x.length/\h.IsRvs I x t ((x.length:Int)-1-(i:Int))) where
 sub:=λb hb=>hb
 frame:=λ_ _ _ y hk=>⟨y.1,y.2.at λo e=>hk I (by simp) o e⟩
 item:=λi s Q E hi y hQ=>by
  have e:(x.length:Int)-1-(i:Int)=((x.length-1-i:Nat):Int):=by omega
  have hit:=y.2;rw[e]at hit;have hb:x.length-1-i<x.cps.size:=by have:x.length=x.cps.size:=rfl;omega
  have hx:x.cps[x.length-1-i]?=some (x.cps[x.length-1-i]'hb):=Array.getElem?_eq_getElem hb;have hs:sizeLine=16777216:=sizeLine_eq;refine iD hit hx ⋯ λh' tk tk' hit' hs'=>?_;have e2:((x.length-1-i:Nat):Int)-1=(x.length:Int)-1-((i+1:Nat):Int):=by omega
  rw[e2]at hit';exact hQ _ h' tk' ⟨_,tk,hx,rfl⟩ ⟨hi,hit'⟩ λb o hb eo=>hs'.extBut b o (λh=>hb (by simp[h])) eo
 done:=λs Q E y hQ=>by
  have e:(x.length:Int)-1-(x.length:Int) = -1:=by omega
  have hit:=y.2;rw[e]at hit;exact jb hh hit λh' he'=>hQ h' s.toks λb o hb eo=>he' b o (λh=>hb (by simp[h])) eo
 self:=λ_ _ _ _ y hQ=>gO y.2 hQ
theorem lg{I:Addr}{x:Str}{t:Tok}{Q:List Value->Shared->Prop}(hh:A.handled=none)(hit:s.heap.IsRvs I x t ((x.length:Int)-1))(hz:x.length<=sizeLine)
  (hQ:∀s' acc,Moved [I] (λa b=>b=a) s s'->ItemsOf (λi v=>∃c tk,x.cps[x.length-1-i]?=some c/\v=.str ⟨#[c]⟩ tk) acc x.length->Q acc.toList s'):wpAny (model prog w) A (collect (.ref I)) Q E s:=by
 have W:=(Walks.rvs (prog:=prog) (w:=w) (A:=A.in1) hh I x t hz).toS;have hn:x.length<=sizeLine:=hz;have hst:(λi (s:HZ)=>i<=x.length/\s.heap.IsRvs I x t ((x.length:Int)-1-(i:Int))) 0 s:=⟨Hs _,by simpa using hit⟩;have hT:∀i (s:HZ),(i<=x.length/\s.heap.IsRvs I x t ((x.length:Int)-1-(i:Int)))->s.TypeIs (.ref I) "reversed":=λi s y=>y.2.typeIs;have hlt:I<s.heap.objs.size:=by obtain⟨o,ho,_⟩:=hit;exact Hu ho
 have hSI:s.heap.objs.size≠I:=λe=>Hz _ (e▸hlt);have hSf:s.heap.objs.size∉[I]:=λhm=>hSI (G8.mp hm);unfold collect;refine wpAny_bind (wpAny_runValue (codeAny_builtin F.entry_proto_collect ?_));rw[Around.under_plainId F.plain_proto_collect _];show wpAny _ A.in1 (newList [] >>= λl=>again (.builtin "list.__iadd__" ⟨[l,.ref I],[]⟩)) _ _ s;refine wpAny_bind (wpAny_newObj_type ?_);refine wpAny_pure ⟨plainId_quiet F.plain_list_iadd _,codeAny_builtin F.entry_list_iadd ?_⟩;rw[Around.under_plainId F.plain_list_iadd _];have hst₁:=W.frame 0 s (s.heap.push {cls:=.type "list",data:=.seq ([]:List Value).toArray}) s.toks hst (Hr _) λb _ o e=>G6 _ e;have hS₁:(s.heap.push {cls:=.type "list",data:=.seq ([]:List Value).toArray}).get? s.heap.objs.size=some {cls:=.type "list",data:=.seq ([]:List Value).toArray}:=Ha _ rfl;have h1:Builtin.List.listSameRef (.ref s.heap.objs.size) (.ref I)=false:=by simp[Builtin.List.listSameRef,hSI]
 show wpAny _ A.in1 (Builtin.List.listExtendWith (.ref s.heap.objs.size) (.ref I) (.ref s.heap.objs.size)) _ _ _;unfold Builtin.List.listExtendWith;refine wpAny_bind (wpAny_typeOf (hT 0 _ hst₁) ?_);rw[if_neg (by rw[h1];decide)];refine wpAny_bind (W.self 0 _ _ _ hst₁ ?_);refine wpAny_bind (wpAny_holding ?_);unfold Builtin.List.listLengthHint;refine wpAny_bind (wpAny_specialOf (hT 0 _ hst₁) F.nolen_rvs ?_);show wpAny _ A.in1 (specialOf (Value.ref I) (Str.ofString "__length_hint__") >>= _) _ _ _;refine wpAny_bind (wpAny_specialOf (hT 0 _ hst₁) F.hint_rvs ?_)
 (generalize hid:("reversed.__length_hint__":String)=id0;(fail_if_success (clear hid id0));wp_delta;rw[show splitId id0=some ("reversed","__length_hint__") from by subst hid;decide +kernel];subst hid)
 refine wpAny_bind (wpAny_isInstance (b:=true) (hT 0 _ hst₁) (by rw[isSubtype_type];kernel_rfl) ?_);rw[if_neg (show ¬ ((!true)=true) by decide)];dsimp only
 split
 ·rename_i hsil
  exact absurd hsil (by decide +kernel)
 refine wpAny_bind (wpAny_rule ?_);refine wpAny_bind (wpAny_of_eq (F.slot_rvs_hint.bind _) ?_);dsimp only;refine wpAny_bind (wpAny_attempt ?_);refine hint_rvs (i:=(x.length:Int)-1-((0:Nat):Int)) hst₁.2 ⋯ hz λu tk htk=>?_;dsimp only;have hs:sizeLine=16777216:=sizeLine_eq;have hk:Builtin.List.listTooLong (Int.toNat ((x.length:Int)-1-((0:Nat):Int)+1))=false:=by
  unfold Builtin.List.listTooLong;have e:Int.toNat ((x.length:Int)-1-((0:Nat):Int)+1)=x.length:=by omega
  rw[e]
  simpa using hz
 refine wpAny_bind (m:=asInt? (.int _ u)) (wpAny_pure ?_);dsimp only;have hfit:Builtin.List.listFitsIndex ((x.length:Int)-1-((0:Nat):Int)+1)=true:=by
  unfold Builtin.List.listFitsIndex;simp;omega
 rw[if_neg (by rw[hfit];decide),if_neg ⋯,if_neg (by rw[hk];decide)];refine wpAny_pure ?_
 -- the loop,from a list that may have been touched
 have fin:∀(h₂:Heap) (c:Nat),(∀b o,b≠s.heap.objs.size->(s.heap.push {cls:=.type "list",data:=.seq ([]:List Value).toArray}).get? b=some o->h₂.get? b=some o) ->
   h₂.get? s.heap.objs.size=some {cls:=.type "list",data:=.seq ([]:List Value).toArray c} ->
   codeAny (model prog w) A (.builtin "list.extend.loop" ⟨[.ref s.heap.objs.size,.ref I,.ref s.heap.objs.size],[]⟩) (λr s'=>match r with
    | .ok (.ret v)=>wpAny (model prog w) A (match v with
     | .ref a=>do
      let __do_lift <- load a
      match __do_lift.data with
       | .seq xs _=>pure xs.toList
       |_=>unsupported "internal:collect"
     |_=>unsupported "internal:collect") Q E s'
    | .ok _=>False
    | .error e=>E e s') {s with heap:=h₂,toks:=tk}:=λh₂ c keep hS₂=>by
  have hst₂:(λi (s:HZ)=>i<=x.length/\s.heap.IsRvs I x t ((x.length:Int)-1-(i:Int))) 0 {s with heap:=h₂,toks:=tk}:=⟨Hs _,hst₁.2.at λo e=>keep I o (Ne.symm hSI) e⟩;refine codeAny_extend_loopS W hn _ hSf _ x.length 0 _ _ _ rfl (Hs _) hst₂ hS₂ (ItemsOf.nil _) λs' acc' c' hm hS' hacc=>?_;show wpAny _ A (load s.heap.objs.size >>= _) _ _ s';refine wpAny_bind (wpAny_load hS' ?_);refine wpAny_pure (hQ s' acc' ?_ hacc);exact⟨λb ob hb e=>hm.heap b ob (λhm'=>by
    rcases Hi.mp hm' with e1 | hm'
    ·exact absurd (e1▸Hu e) (Hz _)
    ·exact hb hm') (keep b ob (λe1=>absurd (e1▸Hu e) (Hz _)) (G6 _ e)),hm.gens,hm.drawn,hm.os,Hy htk hm.toks⟩
 have quiet:=plainId_quiet F.plain_extend_loop (⟨[.ref s.heap.objs.size,.ref I,.ref s.heap.objs.size],[]⟩:Args)
 split
 ·refine wpAny_bind (wpAny_rule ?_)
  show wpAny _ A.in1 ((updateSeq s.heap.objs.size (·.push .none) >>= λ_=>updateSeq s.heap.objs.size (·.pop)) >>= _) _ _ _;refine wpAny_bind (wpAny_bind (wpAny_updateSeq hS₁ rfl ?_ (by simp) (by simp)));have q1:=PySem.IsL.update (h:=s.heap.push {cls:=.type "list",data:=.seq ([]:List Value).toArray}) (l:=s.heap.objs.size) (items:=([]:List Value).toArray) (n:=0) hS₁ (·.push .none);refine wpAny_updateSeq q1 rfl ?_ (by simp;omega) (by simp);have q2:=PySem.IsL.update q1 (·.pop);exact wpAny_pure ⟨quiet,fin _ _ (λb o hb e=>(G' _ _ (Ne.symm hb)).trans ((G' _ _ (Ne.symm hb)).trans e)) (show _=some ({cls:=.type "list",data:=.seq ([]:List Value).toArray _}:Obj) from q2)⟩
 ·exact wpAny_pure ⟨quiet,fin _ _ (λb o hb e=>e) hS₁⟩
theorem yw{I:Addr}{x sep:Str}{t t0:Tok}{Q:HV}(hh:A.handled=none)(hit:s.heap.IsRvs I x t ((x.length:Int)-1))(hz:x.length<=1000)(hsep:sep.length<=1000)
  (h:∀(s':HZ) (t':Tok) (k:Nat),(∀b o,b≠I->s.heap.get? b=some o->s'.heap.get? b=some o)->s'.gens=s.gens->s'.drawn=s.drawn->s'.os=s.os ->
   Q (.str (Txt.join sep (x.cps.toList.reverse.map λc=>(⟨#[c]⟩:Str))) t') {s' with toks:=k}):wpAny (model prog w) A (call (.builtin "str.join") [.str sep t0,.ref I]) Q E s:=by
 have hs:sizeLine=16777216:=sizeLine_eq;refine wpAny_call (codeAny_call_builtin F.slot_str_join.plain F.entry_str_join (F.slot_str_join.check _ _ _ _ _ _ _ _ (typeIs_str _ _ _) (F.args_str_join_2 _ _) ?_));rw[join_tree_other];refine wpAny_bind (wpAny_typeOf hit.typeIs ?_);show wpAny _ A.in1 ((pyIter (.ref I)).tryCatch _ >>= λit=>collect it >>= λitems=>joinTail sep items) _ _ s;refine wpAny_bind (wpAny_tryCatch (gO hit ?_));refine wpAny_bind (lg hh hit ⋯ λs' acc hm hacc=>?_);obtain⟨l,hl⟩:=exists_strValues acc.toList λv hv=>by
  obtain⟨j,hj,rfl⟩:=Array.mem_iff_getElem.mp (Array.mem_toList_iff.mp hv);obtain⟨c,tk,_,e⟩:=hacc.2 j _ (Array.getElem?_eq_getElem hj);exact⟨_,_,e⟩
 have hlx:l.map (·.1)=x.cps.toList.reverse.map λc=>(⟨#[c]⟩:Str):=by
  have el:l.length=x.length:=by
   have q:=congrArg List.length hl;simp[strValues]at q;rw[q];exact hacc.1
  refine List.ext_getElem (by simp[el];rfl) λj h1 h2=>?_;simp only[List.getElem_map,List.getElem_reverse];have hj:j<l.length:=by simpa using h1
  have ha:acc.toList[j]?=some (Value.str (l[j]).1 (l[j]).2):=by
   rw[<- hl];simp[strValues,hj]
  have ha':acc[j]?=some (Value.str (l[j]).1 (l[j]).2):=by simpa using ha
  obtain⟨c,tk,hc,e⟩:=hacc.2 j _ ha'
  injection e with e1 _
  rw[e1];have hb:x.length-1-j<x.cps.size:=by have:x.length=x.cps.size:=rfl;omega
  rw[Array.getElem?_eq_getElem hb]at hc;have hc':=Option.some.inj hc;rw[<- hc'];simp only[Array.length_toList,Array.getElem_toList]
  rfl
 rw[<- hl];have hok:JoinOk sep (l.map (·.1))=true:=by
  unfold JoinOk;rw[StrLaws.joinTotal];have e1:((l.map (·.1)).map (·.length)).sum=x.length:=by
   rw[hlx,Hh];have:((λy:Str=>y.length)∘λc=>(⟨#[c]⟩:Str))=λ_=>1:=by funext c;rfl
   rw[this,List.map_const',List.sum_replicate_nat];simp
   rfl
  have e2:(l.map (·.1)).length=x.length:=by rw[hlx];simp;rfl
  rw[e1,e2];have:x.length*sep.length<=1000*1000:=Nat.mul_le_mul hz hsep;unfold tooLong;rw[decide_eq_false ⋯]
  rfl
 have hpost:=λt' k=>h s' t' k (λb o hb e=>hm.heap b o (λz=>hb (G8.mp z)) e) hm.gens hm.drawn hm.os;unfold JoinOk at hok;rw[Bool.not_eq_true']at hok;have g:Gives (joinTail sep (strValues l)) (joinMade sep l):=by
  have g0:=gives_joinTail sep l hok;cases l with
  |nil=>exact g0
  |cons p r=>cases r with
   |nil=>exact g0
   |cons q r'=>exact g0
 rw[<- hlx]at hpost;exact g prog w A (wants Q E) s' (post_join l ⟨joinFit_length hok,hpost⟩)
end
namespace F
theorem oY:Slot "reversed" "__init__" "object.__init__":=
 .of (owner:="object") (n:="__init__") (by rw[typeLookup_type,builtinLookup_eq_fast];kernel_rfl) (by decide +kernel) (by decide +kernel) (by decide +kernel)
  (by first | exact .inl (by decide +kernel) | exact .inr (by decide +kernel)) (by rw[isSubtype_type];kernel_rfl)
theorem wC:mroOf (.type "reversed")=pure [.type "reversed",.type "object"]:=by rw[mroOf_type];kernel_rfl
theorem m8:typeLookup (.type "reversed") "__new__"=pure (some (.builtin "reversed.__new__")):=by rw[typeLookup_type,builtinLookup_eq_fast];kernel_rfl
theorem rvs_called:TypeCalled "reversed" "reversed.__new__" "object.__init__":=
 ⟨by decide +kernel,by decide +kernel,⟨_,_,wC⟩,madeBy_type wC m8 (by decide +kernel),by decide +kernel,by rw[isSubtype_type];kernel_rfl,oY⟩
theorem rvs_typeCall_1(a:Value):checkTypeCall "reversed" ⟨[a],[]⟩=pure ():=by kernel_rfl
theorem rvs_newCall_1(a:Value):checkBuiltinCall "reversed.__new__" ⟨[.type "reversed",a],[]⟩=pure ():=by kernel_rfl
theorem rvs_entry_new:entryFor table "reversed.__new__"=some Builtin.«reversed.__new__»:=entryFor_of_tree (by kernel_rfl)
theorem rvs_sub:isSubtype (.type "reversed") (.type "reversed")=pure true:=by rw[isSubtype_type];kernel_rfl
theorem rvs_nostr:typeLookup (.type "str") "__reversed__"=pure none:=by rw[typeLookup_type,builtinLookup_eq_fast];kernel_rfl
end F
section
variable {prog:Ig}{w:Ij}{A:Ii}{E:HV}{s:HZ}
theorem rC(a:Value):Builtin.SmallTypes.newClass "reversed" ⟨[.type "reversed",a],[]⟩=pure (.type "reversed",[a]):=by
 unfold Builtin.SmallTypes.newClass;simp only[isType,F.rvs_sub,pure_bind,Bool.not_true,Bool.false_eq_true,if_false]
theorem pe(x:Str)(t:Tok)(hz:x.length<=sizeLine):Meets (Builtin.«reversed.__new__» ⟨[.type "reversed",.str x t],[]⟩)
  (λ_ R s=>R (.ok (.ret (.ref s.heap.objs.size))) {s with heap:=s.heap.push (vi x t ((x.length:Int)-1)),toks:=s.toks+1+1}):=
 .of_wp λprog w A R s h=>by
  have hs:sizeLine=16777216:=sizeLine_eq;unfold Builtin.«reversed.__new__»;refine wpAny_bind (wpAny_of_eq (rC _) ?_)
  try dsimp only
  refine wpAny_bind (wpAny_of_eq (a:=()) (by first | rfl | kernel_rfl) ?_);refine wpAny_bind (wpAny_of_eq (a:=()) (by first | rfl | kernel_rfl) ?_)
  try dsimp only
  refine wpAny_bind (wpAny_specialOf (typeIs_str s x t) F.rvs_nostr ?_)
  try dsimp only
  refine wpAny_bind ?_;refine wpAny_bind (wpAny_isInstance (T:="str") (b:=false) (typeIs_str s x t) (by rw[isSubtype_type];kernel_rfl) ?_);rw[if_neg nofun];refine wpAny_bind (wpAny_specialOf (typeIs_str s x t) F.slot_str_getitem.lookup ?_);dsimp only
  split
  ·refine wpAny_pure ?_
   rw[if_neg nofun];refine wpAny_bind (P.len_str ⋯ ?_);refine wpAny_bind (m:=asInt? _) (wpAny_pure ?_);dsimp only;show wpAny _ _ (newObj (.type "reversed") (.fields #[.str x t,rawInt ((x.length:Int)-1)]) >>= λv=>ret v) _ _ _;exact wpAny_bind (wpAny_newObj_type (wpAny_pure ⟨_,rfl,h⟩))
  ·rename_i hn
   exact absurd (by decide +kernel) hn
theorem lw{x:Str}{t:Tok}{Q:HV}(hz:x.length<=sizeLine)
  (h:Q (.ref s.heap.objs.size) {s with heap:=s.heap.push (vi x t ((x.length:Int)-1)),toks:=s.toks+1+1}):wpAny (model prog w) A (call (.type "reversed") [.str x t]) Q E s:=
 callType_new F.rvs_called nofun (F.rvs_typeCall_1 _) (F.rvs_newCall_1 _) (λobj=>F.args_object_init_2 obj _) F.rvs_entry_new (pe x t hz) ⟨⟨_,Ha _ rfl,rfl⟩,h⟩
end
end PySem
namespace L2
open PySem PySem.Spec PyProof.Rows
noncomputable def ei(env:Env):List (Str×NameKind)->List (Str×Addr)->List (Str×Addr)
 | [],acc=>acc
 | (n,k)::r,acc=>if k==.free then ei env r ((n,(env.cells.lookup n).getD 0)::acc) else ei env r acc
theorem mw{env:Env}:∀(ns:List (Str×NameKind)) (acc:List (Str×Addr)),(∀x∈ns,x.2=.free->∃c,env.cells.lookup x.1=some c) ->
  (forIn ns acc fun(x:Str×NameKind) (cs:List (Str×Addr))=>(if x.2==.free then do
    let c <- cellOf env x.1
    pure (ForInStep.yield ((x.1,c)::cs))
   else pure (ForInStep.yield cs):Sem (ForInStep (List (Str×Addr)))))=pure (ei env ns acc)
 | [],acc,_=>rfl
 | (n,k)::r,acc,h=>by
  have ih:=λa=>mw (env:=env) r a λx hx=>h x (Hj _ hx);rw[List.forIn_cons]
  by_cases hk:k=.free
  ·subst hk
   obtain⟨c,hc⟩:=h (n,.free) List.mem_cons_self rfl;have hc':env.cells.lookup n=some c:=hc;have e1:cellOf env n=pure c:=by unfold cellOf;rw[hc']
   simp only[ei,hc',Option.getD_some];show((do let c <- cellOf env n;pure (ForInStep.yield ((n,c)::acc))) >>= _)=_;rw[e1,pure_bind,pure_bind];exact ih _
  ·have e2:(k==NameKind.free)=false:=by simpa using hk
   simp only[ei,e2,Bool.false_eq_true,if_false];rw[pure_bind];exact ih _
theorem ji{env:Env}{scope:Scope}(h:∀x∈scope.names,x.2=.free->∃c,env.cells.lookup x.1=some c) :
  closureFor scope env=pure (ei env scope.names []):=by
 unfold closureFor;have e:=mw (env:=env) scope.names [] h;have e2:(forIn scope.names ([]:List (Str×Addr)) λx cs=>(match x with
   | (name,kind)=>if kind==.free then do
     let c <- cellOf env name
     pure (ForInStep.yield ((name,c)::cs))
    else pure (ForInStep.yield cs):Sem (ForInStep (List (Str×Addr)))))=pure (ei env scope.names []):=e
 simp only[]at e2 ⊢
 first
  | (rw[e2];rfl)
  | (erw [e2];rfl)
theorem ie{env:Env}:∀{ns:List (Str×NameKind)} {acc:List (Str×Addr)} {x:Str} {c:Addr},(∀y∈ns,y.2=.free->∃c,env.cells.lookup y.1=some c) ->
  (∀y c,acc.lookup y=some c->env.cells.lookup y=some c)->(ei env ns acc).lookup x=some c->env.cells.lookup x=some c
 | [],_,_,_,_,ha,e=>ha _ _ e
 | (n,k)::r,acc,x,c,h,ha,e=>by
  have hr:∀y∈r,y.2=.free->∃c,env.cells.lookup y.1=some c:=λy hy=>h y (Hj _ hy);unfold ei at e
  by_cases hk:k=.free
  ·subst hk
   rw[if_pos (by simp)]at e;obtain⟨c',hc⟩:=h (n,.free) List.mem_cons_self rfl;have hc':env.cells.lookup n=some c':=hc;refine ie hr (λy d z=>?_) e;rw[hc',Option.getD_some,List.lookup_cons]at z
   by_cases q:y=n
   ·subst q
    simp at z;subst z;exact hc'
   ·have q':(y==n)=false:=by simpa using q
    rw[q']at z;exact ha y d z
  ·rw[if_neg (by simpa using hk)]at e
   exact ie hr ha e
theorem mY{env:Env}:∀{ns:List (Str×NameKind)} {acc:List (Str×Addr)} {x:Str},((∃c,acc.lookup x=some c)\/(x,NameKind.free)∈ns)->∃c,(ei env ns acc).lookup x=some c
 | [],_,_,h=>by
  rcases h with h | h
  ·exact h
  ·exact nomatch h
 | (n,k)::r,acc,x,h=>by
  unfold ei
  by_cases hk:k=.free
  ·subst hk
   rw[if_pos (by simp)];refine mY ?_
   by_cases q:x=n
   ·subst q
    left
    simp[List.lookup_cons]
   ·have q':(x==n)=false:=by simpa using q
    rcases h with⟨c,h⟩ | h
    ·exact .inl ⟨c,by rw[List.lookup_cons,q'];exact h⟩
    ·rcases Hi.mp h with z | z
     ·cases z
      exact absurd rfl q
     ·exact .inr z
  ·rw[if_neg (by simpa using hk)]
   refine mY ?_;rcases h with h | h
   ·exact .inl h
   ·rcases Hi.mp h with z | z
    ·cases z
     exact absurd rfl hk
    ·exact .inr z
noncomputable def tQ(scope osc:Scope):Scope:=
 {scope with names:=scope.names.map fun(n,k)=>if(k==.free&&osc.kind==.function&&osc.names.lookup n==some .cell) then(n,.cell) else(n,k)}
noncomputable def yT(scope osc:Scope):Bool:=
 (scope.kind==.function)&&(osc.kind==.function)&&scope.names.all fun(n,k)=>(k != .free || !scope.names.contains (n,NameKind.cell))&&(k != .local||scope.names.lookup n==some .local) &&
  (k != .free||osc.names.lookup n==some .cell||osc.names.lookup n==some .free)&&(k != .free||(tQ scope osc).names.lookup n != some .local)
structure bv(scope osc:Scope):Prop where
 kind:scope.kind=.function
 sep:∀x∈scope.names,x.2=.free->(x.1,NameKind.cell)∉scope.names
 loc:∀x∈scope.names,x.2=.local->scope.names.lookup x.1=some .local
 free:∀x∈scope.names,x.2=.free->osc.names.lookup x.1=some .cell\/osc.names.lookup x.1=some .free
 nl:∀x∈scope.names,x.2=.free->(tQ scope osc).names.lookup x.1≠some .local
theorem bv.of{scope osc:Scope}(h:yT scope osc=true):bv scope osc:=by
 unfold yT at h;rw[Bool.and_eq_true,Bool.and_eq_true,HK]at h;obtain⟨⟨h1,h0⟩,h2⟩:=h;refine⟨by simpa using h1,λx hx e=>?_,λx hx e=>?_,λx hx e=>?_,λx hx e=>?_⟩
 all_goals
  obtain⟨n,k⟩:=x;have q:=h2 (n,k) hx;simp only[Bool.and_eq_true,Bool.or_eq_true,bne_iff_ne,beq_iff_eq]at q
 ·have z:=q.1.1.1.resolve_left (λz=>z e)
  simpa using z
 ·exact q.1.1.2.resolve_left (λz=>z e)
 ·rcases q.1.2 with(z | z) | z
  ·exact absurd e z
  ·exact .inl z
  ·exact .inr z
 ·exact q.2.resolve_left (λz=>z e)
theorem fB{osc:Scope}:∀{ns:List (Str×NameKind)} {x:Str} {k':NameKind},
  (ns.map fun(n,k)=>if(k==NameKind.free&&osc.kind==.function&&osc.names.lookup n==some .cell) then(n,NameKind.cell) else(n,k)).lookup x=some k' ->
  (k'=.cell\/k'=.free)->(x,NameKind.free)∈ns\/(x,NameKind.cell)∈ns
 | [],_,_,h,_=>by simp at h
 | (n,k)::r,x,k',h,hk'=>by
  rw[Hx]at h
  by_cases q:x=n
  ·subst q
   by_cases z:(k==NameKind.free&&osc.kind==.function&&osc.names.lookup x==some .cell)=true
   ·have:k=.free:=by
     simp only[Bool.and_eq_true,beq_iff_eq]at z;exact z.1.1
    subst this;exact .inl List.mem_cons_self
   ·simp only[z,Bool.false_eq_true,if_false]at h
    rw[List.lookup_cons]at h;simp at h;subst h;rcases hk' with e | e
    ·subst e;exact .inr List.mem_cons_self
    ·subst e;exact .inl List.mem_cons_self
  ·have q':(x==n)=false:=by simpa using q
   refine(fB (osc:=osc) (k':=k') (ns:=r) (x:=x) ?_ hk').imp (Hj _) (Hj _)
   by_cases z:(k==NameKind.free&&osc.kind==.function&&osc.names.lookup n==some .cell)=true
   ·simp only[z,if_true]at h
    rw[List.lookup_cons,q']at h;exact h
   ·simp only[z,Bool.false_eq_true,if_false]at h
    rw[List.lookup_cons,q']at h;exact h
theorem jq:∀(ns:List (Str×NameKind)) (n:Nat) (acc:List (Str×Addr)),cellsFrom n ns acc=cellsFrom n ns []++acc
 | [],_,_=>rfl
 | (x,k)::r,n,acc=>by
  unfold cellsFrom
  split
  ·rw[jq r (n+1) ((x,n)::acc),jq r (n+1) [(x,n)],HC];rfl
  ·exact jq r n acc
theorem rB:∀{ns:List (Str×NameKind)} {n:Nat} {x:Str} {c:Addr},(x,c)∈cellsFrom n ns []->(x,NameKind.cell)∈ns
 | [],_,_,_,h=>nomatch h
 | (y,k)::r,n,x,c,h=>by
  unfold cellsFrom at h
  split at h
  ·rename_i hk
   rw[jq]at h;rcases Hg.mp h with h | h
   ·exact Hj _ (rB h)
   ·cases G8.mp h
    have:k=.cell:=by simpa using hk
    subst this;exact List.mem_cons_self
  ·exact Hj _ (rB h)
theorem qU:∀{ns:List (Str×NameKind)} {n:Nat} {x:Str} {acc:List (Str×Addr)},((x,NameKind.cell)∈ns\/∃c,acc.lookup x=some c)->∃c,(cellsFrom n ns acc).lookup x=some c
 | [],_,_,_,h=>h.elim (λz=>nomatch z) id
 | (y,k)::r,n,x,acc,h=>by
  unfold cellsFrom
  split
  ·refine qU ?_
   by_cases q:x=y
   ·subst q
    exact .inr ⟨n,by simp[List.lookup_cons]⟩
   ·have q':(x==y)=false:=by simpa using q
    rcases h with h | ⟨c,h⟩
    ·rcases Hi.mp h with z | z
     ·cases z;exact absurd rfl q
     ·exact .inl z
    ·exact .inr ⟨c,by rw[List.lookup_cons,q'];exact h⟩
  ·rename_i hk
   refine qU ?_;rcases h with h | h
   ·rcases Hi.mp h with z | z
    ·cases z;exact absurd rfl hk
    ·exact .inl z
   ·exact .inr h
noncomputable def dz(env:Env)(scope:Scope)(C:Addr):List (Str×Addr):=cellsFrom (C+1) scope.names (ei env scope.names [])
theorem k_:∀{ns:List (Str×NameKind)} {n:Nat} {x:Str} {c:Addr},(x,c)∈cellsFrom n ns []->n<=c
 | [],_,_,_,h=>nomatch h
 | (y,k)::r,n,x,c,h=>by
  unfold cellsFrom at h
  split at h
  ·rw[jq]at h
   rcases Hg.mp h with h | h
   ·exact Hy (Nat.le_succ _) (k_ h)
   ·cases G8.mp h
    exact Hr _
  ·exact k_ h
theorem ni:∀{ns:List (Str×NameKind)} {n:Nat},(cellsFrom n ns []).Pairwise λx y=>x.2≠y.2
 | [],_=>List.Pairwise.nil
 | (y,k)::r,n=>by
  unfold cellsFrom
  split
  ·rw[jq]
   refine List.pairwise_append.mpr ⟨ni,by simp,λa ha b hb e=>?_⟩;cases G8.mp hb;have:=k_ (x:=a.1) (c:=a.2) ha;rw[e]at this;exact absurd this (Nat.not_succ_le_self _)
  ·exact ni
theorem iz{env:Env}{scope:Scope}{C:Addr}{x:Str}{c:Addr}(h:(dz env scope C).lookup x=some c) :
  ((x,c)∈cellsFrom (C+1) scope.names []/\C<c/\(x,NameKind.cell)∈scope.names)\/((cellsFrom (C+1) scope.names []).lookup x=none/\(ei env scope.names []).lookup x=some c):=by
 unfold dz at h;rw[jq,List.lookup_append]at h;cases q:(cellsFrom (C+1) scope.names []).lookup x with
 |none=>rw[q]at h;exact .inr ⟨rfl,h⟩
 |some d=>
  rw[q]at h;cases h;have:=mem_of_lookup q;exact .inl ⟨this,k_ this,rB this⟩
theorem Aj{ns:List (Str×NameKind)}{n:Nat}{x:Str}(h:(x,NameKind.cell)∉ns):(cellsFrom n ns []).lookup x=none:=by
 cases q:(cellsFrom n ns []).lookup x with
 |none=>rfl
 |some d=>exact absurd (rB (mem_of_lookup q)) h
section
variable {M:Model}{A:Ii}{E:HV}{s:HZ}
theorem eU{scope:Scope}{globals:Addr}{closure:List (Str×Addr)}{qual:Str}{func:Ik}{code:Value}{outer:Env}{builtins:Addr}{Q:Env->Shared->Prop}
  (hQ:Q (newEnv scope s.heap.objs.size globals (cellsFrom (s.heap.objs.size+1) scope.names closure) qual func code (some outer) builtins) {s with heap:=pushCells (s.heap.push {cls:=.type "dict",data:=.dict #[]}) scope.names}) :
  wpAny M A (newFunctionEnv scope globals closure [] qual func code (some outer) builtins) Q E s:=by
 simp only[newFunctionEnv,Option.isSome_some,if_true];simp only[newEnv]at hQ;refine wpAny_bind (wpAny_alloc ?_);refine wpAny_bind (wpAny_layCells _ (λname kind cells=>by cases hkc:kind==NameKind.cell<;>simp[hkc]) _ _ _ _ ?_);rw[show({s with heap:=s.heap.push {cls:=.type "dict",data:=.dict #[]} }:Shared).heap.objs.size=s.heap.objs.size+1 from Heap.size_push ..];rw[List.forIn_nil];exact wpAny_bind (wpAny_pure (wpAny_pure hQ))
end
noncomputable def Cx.blk(X:Cx)(N':Ih)(s₂:HZ)(H₂:Hp)(scope:Scope)(fp:Ib)(C:Addr):Cx where
 prog:=X.prog
 w:=X.w
 K:=X.K
 mg:=X.mg
 base:=X.base
 A:=X.A
 N:=N'
 s₀:=s₂
 H₀:=H₂
 env:=compEnvC scope (dz X.env scope C) C X.env
 outer:=X.stack
 stack:=X.stack
 ex:=fp
 fn:=λx=>scope.names.contains (x,NameKind.cell)
 calm:=X.calm
 pn:=[]
 xe:=λ_ _=>False
noncomputable def pG(k:Nat)(js:HY)(σ:St):St:=List.replicate k none++js.map λj=>(σ[j]?).join
noncomputable def ol(own:Ih)(js:HY)(N:Ih):List Str:=own++js.map λj=>N.getD j Str.empty
section
variable {X:Cx}
theorem Inv.capFree{pins:HX}{σ:St}{H:Hp}{s:HZ}{scope:Scope}(I:Inv X pins σ H s)(hk:bv scope X.env.scope):∀x∈scope.names,x.2=.free->∃c,X.env.cells.lookup x.1=some c:=
 λx hx e=>I.ok.has x.1 (hk.free x hx e)
theorem Inv.capL{pins:HX}{σ:St}{H:Hp}{s:HZ}{scope:Scope}{x:Str}{c:Addr}(I:Inv X pins σ H s)(hk:bv scope X.env.scope)(e:(ei X.env scope.names []).lookup x=some c):X.env.cells.lookup x=some c:=
 ie (I.capFree hk) (λ_ _ z=>by simp at z) e
theorem Inv.blkL{pins:HX}{σ:St}{H:Hp}{s:HZ}{scope:Scope}{C:Addr}{x:Str}{c:Addr}(I:Inv X pins σ H s)(hk:bv scope X.env.scope)(e:(dz X.env scope C).lookup x=some c) :
  ((x,c)∈cellsFrom (C+1) scope.names []/\C<c/\(x,NameKind.cell)∈scope.names)\/X.env.cells.lookup x=some c:=
 (iz e).imp id λz=>I.capL hk z.2
theorem C_{pins:HX}{σ:St}{H:Hp}{s:HZ}{N':Ih}{scope:Scope}{fp:Ib}{C:Addr}(I:Inv X pins σ H s)(hk:bv scope X.env.scope)(hC:s.heap.objs.size<=C)
  (hf:∀b∈fp,mI X pins H b) (ho:∀b∈fp,∃o,s.heap.get? b=some o):(X.blk N' s H scope fp C).Ok where
 mod:=I.ok.mod
 kind:=hk.kind
 glob:=I.ok.glob
 blt:=I.ok.blt
 above:=hC
 inj:=λx y c e1 e2=>by
  have low:∀z,X.env.cells.lookup z=some c->c<C:=λz e=>by
   obtain⟨v,q⟩:=I.cell z c e;exact Hl q.lt hC
  rcases I.blkL hk e1 with⟨a1,a2,_⟩ | a<;>rcases I.blkL hk e2 with⟨b1,b2,_⟩ | b
  ·exact name_of_addr ni a1 b1
  ·exact absurd (low _ b) (Nat.not_lt.mpr (Nat.le_of_lt a2))
  ·exact absurd (low _ a) (Nat.not_lt.mpr (Nat.le_of_lt b2))
  ·exact I.ok.inj x y c a b
 has:=λx h=>by
  refine qU ?_;have z:(x,NameKind.free)∈scope.names\/(x,NameKind.cell)∈scope.names:=by
   rcases h with h | h
   ·exact fB (osc:=X.env.scope) h (.inl rfl)
   ·exact fB (osc:=X.env.scope) h (.inr rfl)
  rcases z with z | z
  ·exact .inr (mY (.inr z))
  ·exact .inl z
 cab:=λx c z e=>by
  have z':(x,NameKind.cell)∈scope.names:=by
   have z2:scope.names.contains (x,NameKind.cell)=true:=z
   simpa using z2
  have e':(dz X.env scope C).lookup x=some c:=e;rcases iz e' with⟨_,a,_⟩ | ⟨a,_⟩
  ·exact Hy hC (Nat.le_of_lt a)
  ·obtain⟨d,q⟩:=qU (n:=C+1) (acc:=[]) (.inl z')
   rw[a]at q;cases q
 hd:=I.ok.hd
 frames:=I.ok.frames
 stk:=.inl rfl
 exf:=λb hb=>⟨λe=>by
  obtain⟨o,q⟩:=ho b hb;have e':b=C:=e;rw[e']at q;exact absurd (Hu q) (Nat.not_lt.mpr hC),λx c e=>by
  rcases I.blkL hk e with⟨_,a,_⟩ | a
  ·obtain⟨o,q⟩:=ho b hb
   intro z;rw[z]at a;exact absurd (Hl (Hu q) hC) (Nat.not_lt.mpr (Nat.le_of_lt a))
  ·exact(hf b hb).2.2.2.2.1 x c a⟩
 bs:=I.bs
 bsz:=Hy I.ok.bsz I.sz
 noex:=λb o e hb=>by
  rcases(hf b hb).2.2.2.1 with z | z
  ·exact I.ok.noex b o e z
  ·exact absurd (Hu (I.ok.bs b o e).1) (Nat.not_lt.mpr z)
 exfs:=λb hb hs=>by
  rcases Hi.mp (I.stkSub b hs) with z | z
  ·exact(hf b hb).2.1 z
  ·exact(hf b hb).2.2.1 z
 funs:=I.stack
 frf:=I.stkFree
theorem xj{pins:HX}{σ:St}{H:Hp}{s s1:HZ}{own:Ih}{js:HY}{scope:Scope}{fp:Ib}{C:Addr}{m:Ic}(I:Inv X pins σ H s)(hk:bv scope X.env.scope)(hC:s.heap.objs.size<=C)
  (hf:∀b∈fp,mI X pins H b) (ho:∀b∈fp,∃o,s.heap.get? b=some o) (hos:s1.os=s.os) (hg:s1.gens=s.gens) (hn:s1.heap.Ns C m) (keep:∀b o,s.heap.get? b=some o->s1.heap.get? b=some o)
  (hown:∀x c,(x,c)∈cellsFrom (C+1) scope.names []->s1.heap.IsCell c none) (hcap:(js.all λj=>scope.names.contains (X.N.getD j Str.empty,NameKind.free))=true) :
  Inv (X.blk (ol own js X.N) s H scope fp C) [] (pG own.length js σ) H s1:=by
 have cl:=fun{x:Str} {c:Addr} (e:(ei X.env scope.names []).lookup x=some c)=>ie (I.capFree hk) (λ_ _ z=>by simp at z) e;refine⟨C_ I hk hC hf ho,hos,hg▸I.bare,Un.kept keep,⟨m,hn,λi x v e1 e2 e3=>?_⟩,λx c e=>?_,I.hok.fresh hC,λx c e=>(I.blkL hk e).elim (λz=>I.hok.fresh (Hy hC (Nat.le_of_lt z.2.1))) λz=>I.freeC x c z,λp hp=>(nomatch hp),I.hok.kept keep,?_⟩
 ·have e1':(own++js.map λj=>X.N.getD j Str.empty)[i]?=some x:=e1
  have e2':(List.replicate own.length none++js.map λj=>(σ[j]?).join)[i]?=some (some v):=e2
  by_cases hi:i<own.length
  ·rw[Ho (by rw[List.length_replicate];exact hi),List.getElem?_replicate,if_pos hi]at e2'
   cases e2'
  ·have hi':own.length<=i:=Nat.le_of_not_lt hi
   rw[Hn (by rw[List.length_replicate];exact hi'),List.length_replicate,G9]at e2';rw[Hn hi',G9]at e1';cases ej:js[i-own.length]? with
   |none=>rw[ej]at e1';cases e1'
   |some j=>
    rw[ej]at e1' e2';have ex:X.N.getD j Str.empty=x:=Option.some.inj e1';have ev:(σ[j]?).join=some v:=Option.some.inj e2';have hj:σ[j]?=some (some v):=by
     cases q:σ[j]? with
     |none=>rw[q]at ev;cases ev
     |some z=>rw[q]at ev;simp at ev;rw[ev]
    have hjl:j<X.N.length:=by rw[<- I.len];exact(G5.mp hj).1
    have hN:X.N[j]?=some x:=by rw[<- ex,List.getD_eq_getElem?_getD,G4 hjl];rfl
    have hx:(x,NameKind.free)∈scope.names:=by
     have q:=HK.mp hcap j (G_ ej);rw[ex]at q
     simpa using q
    have ko:=hk.free _ hx rfl;obtain⟨mo,hno,hl⟩:=I.loc;obtain⟨u,ru,lk⟩:=hl j x v hN hj (ko.elim (λz=>.inr (.inl z)) λz=>.inr (.inr z));refine⟨u,ru,?_⟩;rcases lk with⟨kk,_⟩ | ⟨kk,c,ec,hc⟩
    ·rcases ko with z | z
     ·rw[show X.env.kindOf x=X.env.scope.names.lookup x from rfl,z]at kk;cases kk
     ·rw[show X.env.kindOf x=X.env.scope.names.lookup x from rfl,z]at kk;cases kk
    ·obtain⟨c',hc'⟩:=mY (env:=X.env) (ns:=scope.names) (acc:=[]) (x:=x) (.inr hx)
     have:=cl hc';rw[ec]at this;cases this;refine .inr ⟨?_,c,?_,hc.keeps keep⟩
     case refine_2=>
      show(dz X.env scope C).lookup x=some c;unfold dz;rw[jq,List.lookup_append,Aj (hk.sep _ hx rfl)];exact hc'
     -- its kind within the block
     rcases e3 with z | z | z
     ·exact absurd z (hk.nl _ hx rfl)
     ·exact .inl z
     ·exact .inr z
 ·rcases I.blkL hk e with z | z
  ·exact⟨none,hown x c z.1⟩
  ·obtain⟨v,z⟩:=I.cell x c z
   exact⟨v,z.keeps keep⟩
 ·show(List.replicate own.length none++js.map λj=>(σ[j]?).join).length=(own++js.map λj=>X.N.getD j Str.empty).length
  simp
noncomputable def BU(env:Env)(ifs:Il):Sem Bool:=forIn ifs true λc r=>if r=true then do let ok <- isTrue c env (eval c env);pure (ForInStep.yield ok) else pure (ForInStep.yield r)
theorem qY{prog:Ig}{w:Ij}{A:Ii}{R:Result->Shared->Prop}{s:HZ}{elt target iter:Expr}{ifs:Il}{scope:Scope}{pos:Pos}{it acc:Value}{env:Env}(I:Nat->Shared->Prop)
  (turn:∀n s,I n s->wpAny (model prog w) A (pyNext it) (λr s₁=>match r with
   |none=>R (.ok .next) s₁
   |some v=>wpAny (model prog w) A (letOwnedTupleGo target it v) (λ_ s₁'=>wpAny (model prog w) A (assign target env v) (λ_ s₂=>
     wpAny (model prog w) A (BU env ifs) (λok s₃=>
      if ok=true then wpAny (model prog w) A (eval elt env) (λx s₄=>
       wpAny (model prog w) A (call (.builtin "list.append") [acc,x]) (λ_ s₅=>∃m,m<n/\I m s₅) (λ_ _=>False) s₄) (λ_ _=>False) s₃
      else ∃m,m<n/\I m s₃) (λ_ _=>False) s₂) (λ_ _=>False) s₁') (λ_ _=>False) s₁) (λ_ _=>False) s)
  (n:Nat) (h:I n s) :
  codeAny (model prog w) A (.compLoop (.ListComp elt [⟨target,iter,ifs,0⟩] scope pos) 0 it acc env) R s:=by
 refine codeAny_loop rfl I (λn s hI=>?_) n h;show wpAny _ A ((compTurn (.ListComp elt [⟨target,iter,ifs,0⟩] scope pos) 0 it acc env).onRaise (λx=>do noteFrame x env;theTreesLotGoes x)) _ _ s;refine wpAny_noted ?_;rw[compTurn_list];have up:∀{α:Type} {t:Sem α} {Q Q':α->Shared->Prop} {E':HV} {s:HZ},wpAny (model prog w) A t Q (λ_ _=>False) s->(∀a s,Q a s->Q' a s)->wpAny (model prog w) A t Q' E' s:=
  λh hQ=>wpAny_mono h hQ λ_ _ f=>f.elim
 refine wpAny_bind (wpAny_standAt (wpAny_bind (up (turn n s hI) λr s₁ h₁=>?_)));cases r with
 |none=>exact wpAny_pure h₁
 |some v=>
  refine wpAny_bind (up h₁ λ_ s₁' h₁'=>wpAny_bind (up h₁' λ_ s₂ h₂=>wpAny_bind (up h₂ λok s₃ h₃=>?_)));cases ok with
  |false=>exact wpAny_pure ⟨rfl,h₃⟩
  |true=>
   exact wpAny_bind (wpAny_bind (up h₃ λx s₄ h₄=>wpAny_bind (up h₄ λ_ s₅ h₅=>wpAny_pure (wpAny_pure ⟨rfl,h₅⟩))))
def DE(X:Cx)(ifs:Il)(t:TT):Prop:=
 ∀(pins:HX) (s:HZ) (σ:St) (H:Hp) (Q:Bool->Hp->Prop),Inv X pins σ H s->t σ H Q->wpAny (model X.prog X.w) X.A (BU X.env ifs) (TP X pins σ Q) X.xe s
noncomputable def uq:TT:=λ_ H Q=>Q true H
theorem cD{X:Cx}:DE X [] uq:=λpins s σ H Q I h=>wpAny_tests_nil ⟨H,I,h⟩
theorem qX{X:Cx}{c:Expr}{t:TT}(h:PT X c t):DE X [c] t:=λpins s σ H Q I q=>wpAny_tests_one (h pins s σ H Q I q)
def gZ(J:It)(g:TG)(ti:TT)(te:TE)(σ:St)(H:Hp)(Q:List V->Hp->Prop):Prop:=
 ∃W:Nat->Nat->List V->St->Hp->Prop,(∃m,W 0 m [] σ H)/\∀i m acc σ' H',W i m acc σ' H' ->
  acc.length<sizeLine/\((J.stop i H'/\Q acc H') \/
   (J.go i H'/\∃N:List V->St->Hp->Prop,(∀acc' σ2 H2,N acc' σ2 H2->∃m',m'<m/\W (i+1) m' acc' σ2 H2) /\
    ∀x H2,J.yld i H' x H2->g x σ' H2 λσ2 H3=>ti σ2 H3 λb H4=>if b=true then te σ2 H4 λv H5=>N (acc++[v]) σ2 H5 else N acc σ2 H4))
noncomputable def wd(k:Nat)(js:HY)(wi:TI)(g:TG)(ti:TT)(te:TE):TE:=λσ H Q=>wi σ H λJ H1=>gZ J g ti te (pG k js σ) H1 λacc H'=>∀l,H' l=none->Q (.ref l) (au H' l (.lst acc))
noncomputable abbrev gm(its:Ia)(n:Nat):Obj:={cls:=.type "list",data:=.seq its.toArray n}
theorem pV{pins:HX}{σ:St}{H:Hp}{s:HZ}{elt tg iter:Expr}{ifs:Il}{scope:Scope}{pos:Pos}{own:Ih}{js:HY}{g:TG}{ti:TT}{te:TE}{J:It}{fp:Ib}{it:Addr}{tn:Nat->Heap->Prop}{Q:List V->Hp->Prop}{E:HV}
  {RR:Value->Addr->Result->Shared->Prop} (hc:X.calm=true) (hk:bv scope X.env.scope) (hcap:(js.all λj=>scope.names.contains (X.N.getD j Str.empty,NameKind.free))=true)
  (hg:∀s H fp C,PG (X.blk (ol own js X.N) s H scope fp C) tg g) (hi:∀s H fp C,DE (X.blk (ol own js X.N) s H scope fp C) ifs ti) (he:∀s H fp C,PE (X.blk (ol own js X.N) s H scope fp C) elt te)
  (I:Inv X pins σ H s) (T:so X.prog X.w X.K tg J fp it tn) (st:tn 0 s.heap) (hf:∀b∈fp,mI X pins H b)
  (hW:gZ J g ti te (pG own.length js σ) H Q)
  (hRR:∀(D C:Addr) (s':HZ) (H':Hp) (acc:List V) (m:Ic),Q acc H'->H' D=none->Inv X pins σ (au H' D (.lst acc)) s'->s'.heap.Ns C m->au H' D (.lst acc) C=none->C≠X.env.locals->X.s₀.heap.objs.size<=C ->
   (∀x c,X.env.cells.lookup x=some c->c≠C)->(∀p∈X.pn++pins,p.1≠C)->RR (.ref D) C (.ok .next) s') :
  wpAny (model X.prog X.w) X.A (newList []) (λacc s₃=>wpAny (model X.prog X.w) X.A (newFunctionEnv scope X.env.globals (ei X.env scope.names []) [] X.env.qual none .none (some X.env)) (λcenv s₄=>
   codeAny (model X.prog X.w) X.A (.compStart (.ListComp elt [⟨tg,iter,ifs,0⟩] scope pos) 0 (.ref it) acc {cenv with scope:=relabel scope X.env}) (RR acc cenv.locals) s₄) E s₃) E s:=by
 obtain⟨W,⟨m0,w0⟩,turn⟩:=hW;refine wpAny_newObj_type (eU ?_);dsimp only;generalize hH2:s.heap.push {cls:=.type "list",dict:=none,data:=.seq ([]:List Value).toArray}=H2;generalize hh1:pushCells (H2.push {cls:=.type "dict",data:=.dict #[]}) scope.names=h₁;have hpk:∀b o,(H2.push {cls:=.type "dict",data:=.dict #[]}).get? b=some o->h₁.get? b=some o:=λb o e=>hh1▸pushCells_keeps _ _ b o e;have hns₁:h₁.Ns H2.objs.size λ_=>none:=by
  have q:(H2.push {cls:=.type "dict",data:=.dict #[]}).Ns H2.objs.size λ_=>none:=Heap.Ns.new ..;exact q.at' λo e=>hpk _ o e
 have hown₁:∀x c,(x,c)∈cellsFrom (H2.objs.size+1) scope.names []->h₁.IsCell c none:=λx c e=>by
  have ok:=cellsFrom_ok scope.names (H2.push {cls:=.type "dict",data:=.dict #[]}) (H2.objs.size+1) [] ⟨λ_ _ hm=>(nomatch hm),List.Pairwise.nil⟩ (by rw[Heap.size_push];exact Hr _);rw[Heap.size_push,hh1]at ok;exact(ok.empty x c e).1
 have hC:H2.objs.size=s.heap.objs.size+1:=by rw[<- hH2,Heap.size_push]
 have hDC:s.heap.objs.size≠H2.objs.size:=by rw[hC];exact Hm (HA _)
 have hCle:s.heap.objs.size<=H2.objs.size:=by rw[hC];exact Nat.le_succ _
 have below:∀b,b<s.heap.objs.size->b≠H2.objs.size/\b≠s.heap.objs.size:=λb hb=>⟨by rw[hC];exact Hm (Nat.lt_succ_of_lt hb),Hm hb⟩;have old:∀b o,s.heap.get? b=some o->h₁.get? b=some o:=λb o e=>hpk b o (G6 _ (hH2▸G6 _ e));have hacc:h₁.get? s.heap.objs.size=some (gm [] 0):=hpk _ _ (G6 _ (hH2▸Ha _ rfl));have hob:∀b∈fp,∃o,s.heap.get? b=some o:=λb hb=>let ⟨o,e,_⟩:=T.obj 0 _ st b hb;⟨o,e⟩
 have st₁:tn 0 h₁:=T.keep 0 _ _ st λb _ o e=>old b o e;generalize hXb:X.blk (ol own js X.N) s H scope fp H2.objs.size=Xb;have I₁:Inv Xb [] (pG own.length js σ) H {s with heap:=h₁}:=hXb▸xj I hk hCle hf hob rfl rfl hns₁ old hown₁ hcap;have eP:Xb.prog=X.prog:=by rw[<- hXb];rfl
 have ew:Xb.w=X.w:=by rw[<- hXb];rfl
 have eK:Xb.K=X.K:=by rw[<- hXb];rfl
 have eA:Xb.A=X.A:=by rw[<- hXb];rfl
 have ec:Xb.calm=true:=by rw[<- hXb];exact hc
 have eE:Xb.env=compEnvC scope (dz X.env scope H2.objs.size) H2.objs.size X.env:=by rw[<- hXb];rfl
 have ex:Xb.xe=λ_ _=>False:=by rw[<- hXb];rfl
 have es:Xb.s₀=s:=by rw[<- hXb];rfl
 have eh:Xb.H₀=H:=by rw[<- hXb];rfl
 have ef:Xb.fs=lG X.stack:=by rw[<- hXb];rfl
 have exx:Xb.ex=fp:=by rw[<- hXb];rfl
 have ep:Xb.pn=[]:=by rw[<- hXb];rfl
 have eL:Xb.env.locals=H2.objs.size:=by rw[eE];rfl
 have hD0:H s.heap.objs.size=none:=I.hok.fresh (Hr _)
 -- D is no iterator's,no frame's
 have hDf:∀b∈fp,b≠s.heap.objs.size:=λb hb e=>by
  obtain⟨o,q⟩:=hob b hb;rw[e]at q;exact absurd (Hu q) (Hz _)
 have hDs:s.heap.objs.size∉Xb.fs:=λz=>by
  rw[ef]at z;rcases Hi.mp (I.stkSub _ z) with q | q
  ·exact absurd I.lt (by rw[<- q];exact Hz _)
  ·exact I.nofs (Hr _) q
 have hDcell:∀x c,Xb.env.cells.lookup x=some c->c≠s.heap.objs.size:=λx c e q=>by
  rcases I.blkL hk (C:=H2.objs.size) (x:=x) (c:=c) (by rw[eE]at e;exact e) with⟨_,z,_⟩ | z
  ·rw[q]at z
   exact absurd hCle (Nat.not_le.mpr z)
  ·obtain⟨v,o,ho,_⟩:=I.cell x c z
   rw[q]at ho;exact absurd (Hu ho) (Hz _)
 have stat:∀{pl:HX} {H':Hp},(∀b∈fp,H' b=none)->(∀p∈pl,p.1=s.heap.objs.size)->∀b∈fp,mI Xb pl H' b:=λhn hp b hb=>by
  refine⟨hn b hb,?_,?_,.inl (by rw[exx];exact hb),λx c e=>?_,λp hpp=>?_⟩
  ·rw[eL];exact(below b (let ⟨o,q⟩:=hob b hb;Hu q)).1
  ·rw[ef];intro z
   rcases Hi.mp (I.stkSub b z) with q | q
   ·exact(hf b hb).2.1 q
   ·exact(hf b hb).2.2.1 q
  ·rcases I.blkL hk (C:=H2.objs.size) (x:=x) (c:=c) (by rw[eE]at e;exact e) with⟨_,z,_⟩ | z
   ·intro q
    rw[q]at z;obtain⟨o,q2⟩:=hob b hb;exact absurd (Hl (Hu q2) hCle) (Nat.not_lt.mpr (Nat.le_of_lt z))
   ·exact(hf b hb).2.2.2.2.1 x c z
  ·rw[ep,HN]at hpp
   rw[hp p hpp];exact(hDf b hb).symm
 have loop:∀s₃:Shared,s₃={s with heap:=h₁} ->
   codeAny (model X.prog X.w) X.A (.compLoop (.ListComp elt [⟨tg,iter,ifs,0⟩] scope pos) 0 (.ref it) (.ref s.heap.objs.size) (compEnvC scope (dz X.env scope H2.objs.size) H2.objs.size X.env))
    (RR (.ref s.heap.objs.size) H2.objs.size) s₃:=by
  rintro s₃ rfl;refine qY (λn s'=>∃(i:Nat) (acc:List V) (its:Ia) (k:Nat) (σ':St) (H':Hp),Inv Xb [] σ' H' s'/\tn i s'.heap/\(∀b∈fp,H' b=none)/\H' s.heap.objs.size=none/\s'.heap.get? s.heap.objs.size=some (gm its k)/\aT acc its/\W i n acc σ' H')
   ?_ m0 ⟨0,[],[],0,_,H,I₁,st₁,λb hb=>(hf b hb).1,hD0,hacc,.nil,w0⟩
  rintro n s' ⟨i,acc,its,k,σ',H',I',st',fr',hD',oD',rv',w'⟩;obtain⟨hlen,tt⟩:=turn i n acc σ' H' w'
  -- the gathered list,pinned
  have Ip:Inv Xb [(s.heap.objs.size,gm its k)] σ' H' s':=I'.pins_of λp hp=>by
   have e:p=(s.heap.objs.size,gm its k):=by simpa using hp
   subst e;exact⟨oD',hD',by rw[eL];exact hDC,hDs,λv z=>by cases z⟩
  have hpl:∀p∈[(s.heap.objs.size,gm its k)],p.1=s.heap.objs.size:=λp hp=>by
   have e:p=(s.heap.objs.size,gm its k):=by simpa using hp
   rw[e]
  rcases tt with⟨stop,q⟩ | ⟨go,N,hN,step⟩
  ·have d:=T.done Xb eP ew eK ec i _ s' σ' H' (λ_ _=>False) Ip (stat fr' hpl) st' stop
   rw[eA]at d;refine wpAny_mono d (λr s1 hr=>?_) λ_ _ z=>z;obtain⟨rfl,I1⟩:=hr;have oD1:s1.heap.get? s.heap.objs.size=some (gm its k):=(I1.pin _ (List.mem_append_right _ (G8.mpr rfl))).1;obtain⟨mC,hnC,_⟩:=I1.loc;rw[eL]at hnC;obtain⟨oC,_,_,hoC,_⟩:=id hnC;have hCH:H' H2.objs.size=none:=by have:=I1.free;rwa [eL]at this
   have ub:Un (lG X.stack) fp H H' s.heap s1.heap:=by have:=I1.base;rwa [ef,exx,eh,es]at this
   refine hRR _ _ s1 H' acc mC q hD' ?_ hnC ?_ ?_ ?_ ?_ ?_
   ·-- dD outside
    refine I.call' (ch:=fp) (by have:=I1.os;rwa [es]at this) ⟨λb o e n1 h1 h2=>ub.keep b o e n1 h1 h2,λb o e n1 h1 h2=>ub.slot b o e n1 h1 h2,λb o e n1 h1=>?_,ub.there,λb xs e=>?_,λb o u e=>?_,λb ps e=>?_⟩ ?_ (by have:=I1.bare;exact this) λb hb=>?_
    ·rw[ao (λz=>by rw[z]at e;exact absurd (Hu e) (Hz _))]
     exact ub.free b o e n1 h1
    ·rw[ao (aA (ub.tups b xs e) hD')]
     exact ub.tups b xs e
    ·rw[ao (aA (ub.frzs b o u e) hD')]
     exact ub.frzs b o u e
    ·obtain⟨more,z⟩:=ub.tbls b ps e
     exact⟨more,by rw[ao (aA z hD')];exact z⟩
    ·intro b u e
     have hokb:=I1.hok;rw[eP,ew]at hokb
     by_cases hb:b=s.heap.objs.size
     ·subst hb
      rw[ac]at e;cases e;exact⟨Nat.le_of_lt hlen,its,k,rv',oD1⟩
     ·rw[ao hb]at e
      refine(hokb b u e).stay (λc v _ z=>z) (λc z=>?_) λc xs z=>?_
      ·rw[ao (aA z hD')];exact z
      ·rw[ao (aA z hD')];exact z
    ·exact⟨(hf b hb).2.2.2.1,(hf b hb).2.1,(hf b hb).2.2.2.2.1,(hf b hb).2.2.2.2.2⟩
   ·rw[ao hDC.symm];exact hCH
   ·intro z;have:=I.lt;rw[<- z]at this;exact absurd this (Nat.not_lt.mpr hCle)
   ·exact Hy I.sz hCle
   ·intro x c e z
    obtain⟨v,o,ho,_⟩:=I.cell x c e;rw[z]at ho;exact absurd (Hu ho) (Nat.not_lt.mpr hCle)
   ·intro p hp z
    have:=(I.pin p hp).1;rw[z]at this;exact absurd (Hu this) (Nat.not_lt.mpr hCle)
  ·have d:=T.item Xb eP ew eK ec i _ s' σ' H' (λ_ _=>False) Ip (stat fr' hpl) st' go
   rw[eA]at d;refine wpAny_mono d (λr s1 hr=>?_) λ_ _ z=>z;obtain⟨u,rfl,d2⟩:=hr;refine wpAny_mono d2 (λ_ s2 hr2=>?_) λ_ _ z=>z;obtain⟨x,H2',I2,r2,y2,st2,fr2⟩:=hr2;have I2':=I2.pinned (stat fr2 hpl) (T.obj _ _ st2);have G:=hXb▸hg s H fp H2.objs.size;have d3:=G _ s2 σ' H2' x u _ I2' r2 (step x H2' y2);rw[eP,ew,eA,ex,eE]at d3;refine wpAny_mono d3 (λ_ s3 hr3=>?_) λ_ _ z=>z;obtain⟨σ3,H3,I3,q3⟩:=hr3;have Gi:=hXb▸hi s H fp H2.objs.size;have d4:=Gi _ s3 σ3 H3 _ I3 q3;rw[eP,ew,eA,ex,eE]at d4;refine wpAny_mono d4 (λb s4 hr4=>?_) λ_ _ z=>z;obtain⟨H4,I4,q4⟩:=hr4;have again:∀{s5:HZ} {H5:Hp} {σ5:St},Inv Xb ([(s.heap.objs.size,gm its k)]++nP fp s2.heap) σ5 H5 s5->s5.heap.get? s.heap.objs.size=some (gm its k)/\H5 s.heap.objs.size=none/\tn (i+1) s5.heap/\∀b∈fp,H5 b=none:=fun{s5 H5 σ5} I5=>by
    have pD:=I5.pin (s.heap.objs.size,gm its k) (List.mem_append_right _ (List.mem_append_left _ (G8.mpr rfl)));refine⟨pD.1,pD.2.1,T.keep _ _ _ st2 λb hb o e=>(I5.pin (b,o) (List.mem_append_right _ (List.mem_append_right _ (ip hb e)))).1,λb hb=>?_⟩;obtain⟨o,e,_⟩:=T.obj _ _ st2 b hb;exact(I5.pin (b,o) (List.mem_append_right _ (List.mem_append_right _ (ip hb e)))).2.1
   have bare:∀{s5:HZ} {H5:Hp} {σ5:St} {pl:HX},Inv Xb pl σ5 H5 s5->Inv Xb [] σ5 H5 s5:=λI5=>I5.pins_of λp hp=>nomatch hp;cases b with
   |false=>
    obtain⟨m',hm,w5⟩:=hN _ _ _ q4;obtain⟨a1,a2,a3,a4⟩:=again I4;exact⟨m',hm,i+1,acc,its,k,σ3,H4,bare I4,a3,a4,a2,a1,rv',w5⟩
   |true=>
    have Ge:=hXb▸he s H fp H2.objs.size;have d5:=Ge _ s4 σ3 H4 _ I4 q4;rw[eP,ew,eA,ex,eE]at d5;refine wpAny_mono d5 (λy s5 hr5=>?_) λ_ _ z=>z;obtain⟨v,H5,I5,r5,q5⟩:=hr5;obtain⟨m',hm,w5⟩:=hN _ _ _ q5;obtain⟨a1,a2,a3,a4⟩:=again I5;have hl:=rv'.length;refine call_meets F.slot_list_append ⟨_,a1,rfl⟩ F.entry_list_append (F.args_list_append_2 _ _) (PySem.list_append s.heap.objs.size its.toArray k y (by rw[Hb];omega)) ⟨a1,?_⟩;have qu:=PySem.IsL.update a1 (λx_1=>x_1.push y);have qe:(its.toArray.push y)=(its++[y]).toArray:=by simp
    rw[qe]at qu;have I6:Inv Xb [] σ3 H5 {s5 with heap:=s5.heap.update s.heap.objs.size (Obj.mapSeq λx_1=>x_1.push y),toks:=s5.toks}:=
     (bare I5).turned (λb o hb e=>(G' s5.heap _ (Ne.symm hb)).trans e) a2 (by rw[eL];exact hDC) (.inr (by rw[es];exact Hr _)) hDcell (by rw[ep];intro p hp;exact nomatch hp)
    refine⟨m',hm,i+1,acc++[v],its++[y],_,σ3,H5,I6,T.keep _ _ _ a3 (λb hb o e=>(G' s5.heap _ (hDf b hb).symm).trans e),a4,a2,qu,rv'.append (.cons r5 .nil),w5⟩
 refine codeAny_compStart_list (loop _ rfl) ?_;exact T.self _ 0 _ _ _ st₁ (loop _ rfl)
theorem du{elt tg iter:Expr}{ifs:Il}{scope:Scope}{pos:Pos}(own:Ih)(js:HY){wi:TI}{g:TG}{ti:TT}{te:TE}(hc:X.calm=true)(hk:bv scope X.env.scope)
  (hcap:(js.all λj=>scope.names.contains (X.N.getD j Str.empty,NameKind.free))=true) (hw:PI X tg iter wi)
  (hg:∀s H fp C,PG (X.blk (ol own js X.N) s H scope fp C) tg g) (hi:∀s H fp C,DE (X.blk (ol own js X.N) s H scope fp C) ifs ti) (he:∀s H fp C,PE (X.blk (ol own js X.N) s H scope fp C) elt te)
  (hs:autoParam (∀x,foldedSetIterable iter X.env x=pure x) zz4._auto_1):PE X (.ListComp elt [⟨tg,iter,ifs,0⟩] scope pos) (wd own.length js wi g ti te):=by
 intro pins s σ H Q I h;rw[eval_ListComp];refine wpAny_comprehension_free (use:=none) rfl hs (ji (I.capFree hk)) hk.kind hk.loc (bK (hw pins s σ H _ I h) λv s1 h1=>bK h1 λitv s2 h2=>?_);obtain⟨it,fp,tn,J,H2,rfl,I2,T,st2,f2,hW⟩:=h2;refine pV (RR:=λacc C=>compPost (model X.prog X.w) X.A X.xe none (EP X pins σ Q) acc C) (Q:=λacc H'=>∀l,H' l=none->Q (.ref l) (au H' l (.lst acc))) hc hk hcap hg hi he I2 T st2 f2 hW ?_;intro D C s' H' acc m q hD I' hn hC0 hCL hCs hCc hCp;refine⟨m,hn,λh' sb=>?_⟩;exact⟨.ref D,_,I'.turned (t':=s'.toks) (λb o hb e=>(sb.2 b hb).trans e) hC0 hCL (.inr hCs) hCc hCp,rfl,q D hD⟩
theorem dM{i:Nat}{x:Str}{elt tg iter:Expr}{ifs:Il}{scope:Scope}{pos spos:Pos}{px:Pos}(own:Ih)(js:HY){wi:TI}{g:TG}{ti:TT}{te:TE}(hN:X.N.Nodup)(hxi:X.N[i]?=some x)(hx:Loc X.env.scope x)
  (hsw:swapsWith (.ListComp elt [⟨tg,iter,ifs,0⟩] scope pos) (some (.Name x px)) spos.line X.env=pure true)
  (hc:X.calm=true) (hk:bv scope X.env.scope)
  (hcap:(js.all λj=>scope.names.contains (X.N.getD j Str.empty,NameKind.free))=true) (hw:PI X tg iter wi)
  (hg:∀s H fp C,PG (X.blk (ol own js X.N) s H scope fp C) tg g) (hi:∀s H fp C,DE (X.blk (ol own js X.N) s H scope fp C) ifs ti) (he:∀s H fp C,PE (X.blk (ol own js X.N) s H scope fp C) elt te)
  (hs:autoParam (∀x,foldedSetIterable iter X.env x=pure x) zz4._auto_1) (hf:autoParam (X.fn x=true\/X.env.scope.names.lookup x=some .local) zz3._auto_1) :
  PS X (.Assign [.Name x px] (.ListComp elt [⟨tg,iter,ifs,0⟩] scope pos) spos) (w8 (wd own.length js wi g ti te) (j_ i)):=by
 intro pins s σ H Dn I h;rw[exec_Assign_Name_used _ _ _ _ hsw];refine wpAny_bind (wpAny_standAt (wpAny_bind ?_));show wpAny _ _ (do let _ <- comprehension (.ListComp elt [⟨tg,iter,ifs,0⟩] scope pos) scope X.env _ (newList []) false (eval iter X.env) (some (assign (.Name x px) X.env))) _ _ s;refine wpAny_bind (wpAny_mono (wpAny_comprehension_free (use:=some (assign (.Name x px) X.env)) (Q:=λ_ s'=>SP X pins Dn .next s') (E:=X.xe) rfl hs (ji (I.capFree hk)) hk.kind hk.loc ?_) (λ_ s' q=>wpAny_pure (wpAny_pure q)) λ_ _ z=>z);refine(bK (hw pins s σ H _ I h) λv s1 h1=>bK h1 λitv s2 h2=>?_);obtain⟨it,fp,tn,J,H2,rfl,I2,T,st2,f2,hW⟩:=h2;refine pV (RR:=λacc C=>compPost (model X.prog X.w) X.A X.xe (some (assign (.Name x px) X.env)) (λ_ s'=>SP X pins Dn .next s') acc C) (Q:=λacc H'=>∀l,H' l=none->j_ i (.ref l) σ (au H' l (.lst acc)) Dn.nx) hc hk hcap hg hi he I2 T st2 f2 hW ?_;intro D C s' H' acc m q hD I' hn hC0 hCL hCs hCc hCp;show wpAny _ _ (assign (.Name x px) X.env (.ref D)) _ _ s';refine wpAny_assign_Name (pF I' hN hxi hx (v:=.ref D) rfl (λs'' I'' sb=>?_) hf);obtain⟨a,sb,ha⟩:=sb;have hCa:C≠a:=by
  rcases ha with z | z
  ·rw[z];exact hCL
  ·exact(hCc x a z).symm
 refine⟨m,hn.sameBut sb hCa,λh' sb'=>?_⟩;exact⟨_,_,I''.turned (t':=s''.toks) (λb o hb e=>(sb'.2 b hb).trans e) hC0 hCL (.inr hCs) hCc hCp,q D hD⟩
end
section
variable {K:HW}{g:TG}{ti:TT}{te:TE}{σ:St}{H:Hp}{Q:List V->Hp->Prop}
theorem jH{J:It}{n:Nat}(Pv:Nat->List V->St->Hp->Prop)(h0:Pv 0 [] σ H)(hz:∀i acc σ H,Pv i acc σ H->acc.length<sizeLine)(hi:∀i acc σ H,Pv i acc σ H->i<=n)
  (stop:∀acc σ H,Pv n acc σ H->J.stop n H) (go:∀i acc σ H,i<n->Pv i acc σ H->J.go i H)
  (hs:∀i x acc σ H H2,i<n->Pv i acc σ H->J.yld i H x H2->g x σ H2 λσ2 H3=>ti σ2 H3 λb H4=>if b=true then te σ2 H4 λv H5=>Pv (i+1) (acc++[v]) σ2 H5 else Pv (i+1) acc σ2 H4)
  (he:∀acc σ H,Pv n acc σ H->Q acc H) :
  gZ J g ti te σ H Q:=by
 refine⟨λi m acc σ H=>Pv i acc σ H/\m=n+1-i,⟨n+1,h0,rfl⟩,?_⟩;rintro i m acc σ' H' ⟨w,rfl⟩;refine⟨hz i acc σ' H' w,?_⟩;have hle:=hi i acc σ' H' w;rcases Nat.lt_or_ge i n with hlt | hge
 ·refine .inr ⟨go i acc σ' H' hlt w,λacc' σ2 H2=>Pv (i+1) acc' σ2 H2,λacc' σ2 H2 w2=>⟨n+1-(i+1),?_,w2,rfl⟩,λx H2 y=>hs i x acc σ' H' H2 hlt w y⟩
  have:=hi (i+1) acc' σ2 H2 w2;omega
 ·have e:i=n:=by omega
  subst e;exact .inl ⟨stop acc σ' H' w,he acc σ' H' w⟩
theorem lO{a:Addr}{xs:List V}(Pv:Nat->List V->St->Hp->Prop)(h0:Pv 0 [] σ H)(hz:∀i acc σ H,Pv i acc σ H->acc.length<sizeLine)(hi:∀i acc σ H,Pv i acc σ H->i<=xs.length)
  (hl:∀i acc σ H,Pv i acc σ H->aN K H a xs)
  (hs:∀i x acc σ H,xs[i]?=some x->Pv i acc σ H->g x σ H λσ2 H3=>ti σ2 H3 λb H4=>if b=true then te σ2 H4 λv H5=>Pv (i+1) (acc++[v]) σ2 H5 else Pv (i+1) acc σ2 H4)
  (he:∀acc σ H,Pv xs.length acc σ H->Q acc H):gZ (zz K a) g ti te σ H Q:=by
 exact jH (J:=zz K a) (g:=g) (ti:=ti) (te:=te) (Q:=Q) (n:=xs.length) Pv h0 hz hi (λacc σ H w=>⟨xs,hl _ _ _ _ w,Hr _⟩)
  (λi acc σ H hlt w=>⟨xs,xs[i],hl _ _ _ _ w,G4 hlt⟩) (λi x acc σ H H2 hlt w y=>by obtain⟨rfl,hx⟩:=y;exact hs i x acc σ H2 (hx xs (hl _ _ _ _ w)) w) he
theorem fb{lo:Int}{n:Nat}(Pv:Nat->List V->St->Hp->Prop)(h0:Pv 0 [] σ H)(hz:∀i acc σ H,Pv i acc σ H->acc.length<sizeLine)(hi:∀i acc σ H,Pv i acc σ H->i<=n)
  (hs:∀i acc σ H,i<n->Pv i acc σ H->g (.int (lo+i)) σ H λσ2 H3=>ti σ2 H3 λb H4=>if b=true then te σ2 H4 λv H5=>Pv (i+1) (acc++[v]) σ2 H5 else Pv (i+1) acc σ2 H4)
  (he:∀acc σ H,Pv n acc σ H->Q acc H):gZ (zd lo n) g ti te σ H Q:=by
 exact jH (J:=zd lo n) (g:=g) (ti:=ti) (te:=te) (Q:=Q) (n:=n) Pv h0 hz hi (λacc σ H w=>Hr _) (λi acc σ H hlt w=>hlt) (λi x acc σ H H2 hlt w y=>by obtain⟨rfl,rfl⟩:=y;exact hs i acc σ H2 hlt w) he
end
structure fF(P:Ig)(w:Ij)(K:HW)(mg:Ic)(base:Heap)(CX:j9)(k:Nat)(x:Str)(ps:Ih)(sp:Sp):Prop where
 ex:∃(f:Addr) (fd:Ie),aZ P w K mg base CX k f fd ps sp/\mg x=some (.ref f)/\PySem.W.keepIn K (.ref f)=true/\cV K fd ps []
structure NB(mg:Ic):Prop where
 len:mg "len"=none
 range:mg "range"=none
 list:mg "list"=none
 tuple:mg "tuple"=none
 isinstance:mg "isinstance"=none
 int:mg "int"=none
 bool:mg "bool"=none
 str:mg "str"=none
 reversed:mg "reversed"=none
 all:mg "all"=none
 enumerate:mg "enumerate"=none
 zip:mg "zip"=none
 sorted:mg "sorted"=none
 set:mg "set"=none
 dict:mg "dict"=none
 min:mg "min"=none
 max:mg "max"=none
 sum:mg "sum"=none
 ValueError:mg "ValueError"=none
section
variable {X:Cx}{CX:j9}{k:Nat}{x:Str}{ps:Ih}{sp:Sp}{E:XK}{p pos:Pos}{e:Expr}{es:Il}{t:TA}
theorem aK(C:fF X.prog X.w X.K X.mg X.base CX k x ps sp)(hr:cF k X.A)(hg:Gl X x)(hx:cG CX X E)(ha:PA X (e::es) t)(hdb:autoParam ((x==("__debug__":Str))=false) zz2._auto_1)
  (hst:autoParam (starEach (e::es) X.env=(false,eval e X.env)::starEach es X.env) zz0._auto_1) (hpl:autoParam ((backTo pos (starEach es X.env)).any (·.1)=false) zz0._auto_1):PE X (.Call (.Name x p) (e::es) [] pos) (nG sp [] E t):=by
 obtain⟨f,fd,F,hm,hk,hb⟩:=C.ex;exact Bj F hr hg hm hk hb .nil hx ha hdb hst hpl
end
section
variable {X:Cx}{tg:Expr}
def zo(_ j:Int):Prop:=0<j/\j<18446744073709551616
theorem a_:aW X (binaryOp .FloorDiv) (rI zo λi j=>.int (i/j)):=D_ λi j _ _ _ _ _ hc q=>by
 have h1:(0:Int)<j:=hc.1;have h2:j<18446744073709551616:=hc.2;refine floordiv_int ⋯ (by rw[Int.fdiv_eq_ediv_of_nonneg i ⋯];exact q) (.inl (PyProof.noPylong_of_log2 ?_));have h64:j.natAbs.log2<64:=(Nat.log2_lt ⋯).mpr ⋯;omega
theorem ky:∀{ys:Ih} {us:Ia},aT (ys.map V.str) us->StrsAre us ys
 | [],_,.nil=>.nil
 |y::ys,_,.cons r t=>by
  obtain⟨tk,rfl⟩:=r;exact .cons y tk (ky t)
noncomputable def yv(K:HW):V->List V->Hp->VK->Prop:=λx xs H Q=>∃z p ys,x=.str z/\xs=[.ref p]/\(aN K H p (ys.map V.str)\/bx K H p (ys.map V.str))/\(ys.map (·.length)).sum+ys.length*z.length<=16777216/\Q (.str (Txt.join z ys)) H
theorem wE:ER X "str.join" (yv X.K):=by
 intro pins s σ H x xs v us Q I rx rv h;obtain⟨z,p,ys,rfl,rfl,hs,hz,q⟩:=h;obtain⟨t,rfl⟩:=rx;obtain⟨u,rfl,ru⟩:=rv.one;cases ru;rcases hs with hs | hs
 ·obtain⟨its,r,pl,_⟩:=I.list hs
  exact join_list pl.isList (by simpa using ky r) hz λt' k=>⟨.str _,H,I.tok k,⟨t',rfl⟩,q⟩
 ·obtain⟨its,r,pl,_⟩:=I.tuple hs
  exact join_tuple pl (by simpa using ky r) hz λt' k=>⟨.str _,H,I.tok k,⟨t',rfl⟩,q⟩
noncomputable def DD(x:Str):It:=⟨λi _=>i<x.cps.size,λi H v H'=>H'=H/\∃c,x.cps[i]?=some c/\v=.str ⟨#[c]⟩,λi _=>x.cps.size<=i⟩
theorem AB{P:Ig}{w:Ij}{K:HW}{tg:Expr}(x:Str)(t:Tok)(it:Addr):so P w K tg (DD x) [it] it (λi h=>h.IsStrIter it (strIterType x) x t i) where
 mem:=by simp
 obj:=λi h st b hb=>by
  have e:b=it:=by simpa using hb
  subst e;obtain⟨o,e,c,d⟩:=st;exact⟨o,e,λv z=>by rw[d]at z;cases z⟩
 keep:=λi h h' st k=>by
  obtain⟨o,e,c,d⟩:=st;exact⟨o,k it (by simp) o e,c,d⟩
 item:=by
  intro X hP hw hK hc i pins s σ H E I hf st hg;subst hP hw hK;obtain⟨f0,f1,f2,f3,f4,f5⟩:=hf it (by simp);have hi:i<x.cps.size:=hg;have hx:x.cps[i]?=some x.cps[i]:=Array.getElem?_eq_getElem hi;have fin:∀h',h'.IsStrIter it (strIterType x) x t (i+1)->Heap.SameBut it s.heap h'->∃u,(some (Value.str ⟨#[x.cps[i]]⟩ s.toks))=some u /\
    wpAny (model X.prog X.w) X.A (letOwnedTupleGo tg (.ref it) u) (λ_ s2=>∃v H',Inv X pins σ H' s2/\ba v u/\(DD x).yld i H v H'/\s2.heap.IsStrIter it (strIterType x) x t (i+1)/\∀b∈[it],H' b=none) E {s with heap:=h',toks:=s.toks+1}:=λh' st' sb=>by
   have I1:Inv X pins σ H {s with heap:=h',toks:=s.toks+1}:=I.turned (λb o hb e=>(sb.2 b hb).trans e) f0 f1 f3 f4 f5;obtain⟨o,e,c,d⟩:=id st';refine⟨_,rfl,uf (s:={s with heap:=h',toks:=s.toks+1}) e c d ?_ ⟨.str ⟨#[x.cps[i]]⟩,H,I1,⟨_,rfl⟩,⟨rfl,_,hx,rfl⟩,st',λb hb=>(hf b hb).1⟩⟩;unfold strIterType
   split<;>decide
  cases ha:x.cps.all (· < 128) with
  |true=>
   have ety:strIterType x="str_ascii_iterator":=by unfold strIterType;rw[ha];rfl
   rw[ety]at st fin ⊢;exact wpAny_pyNext_ascii_item st hx fin
  |false=>
   have ety:strIterType x="str_iterator":=by unfold strIterType;rw[ha];rfl
   rw[ety]at st fin ⊢;exact wpAny_pyNext_wide_item st hx fin
 done:=by
  intro X hP hw hK hc i pins s σ H E I hf st hg;subst hP hw hK;obtain⟨f0,f1,f2,f3,f4,f5⟩:=hf it (by simp);have hi:x.cps.size<=i:=hg;have hx:x.cps[i]?=none:=Array.getElem?_eq_none hi;cases ha:x.cps.all (· < 128) with
  |true=>
   have ety:strIterType x="str_ascii_iterator":=by unfold strIterType;rw[ha];rfl
   rw[ety]at st;exact wpAny_pyNext_ascii_end (I.ok.hd hc) st hx λh' eb=>⟨rfl,I.turned (t':=s.toks) (λb o hb e=>eb b o hb e) f0 f1 f3 f4 f5⟩
  |false=>
   have ety:strIterType x="str_iterator":=by unfold strIterType;rw[ha];rfl
   rw[ety]at st;exact wpAny_pyNext_wide_end (I.ok.hd hc) st hx λh' eb=>⟨rfl,I.turned (t':=s.toks) (λb o hb e=>eb b o hb e) f0 f1 f3 f4 f5⟩
 self:=λA i s Q E st h=>by
  cases ha:x.cps.all (· < 128) with
  |true=>
   have ety:strIterType x="str_ascii_iterator":=by unfold strIterType;rw[ha];rfl
   rw[ety]at st;exact wpAny_pyIter_striter_ascii st h
  |false=>
   have ety:strIterType x="str_iterator":=by unfold strIterType;rw[ha];rfl
   rw[ety]at st;exact wpAny_pyIter_striter_wide st h
noncomputable def Cy(tl:TE):TI:=λσ H R=>tl σ H λv H1=>∃x,v=.str x/\R (DD x) H1
theorem B_{l:Expr}{tl:TE}(hl:PE X l tl):PI X tg l (Cy tl):=by
 intro pins s σ H R I h;refine bK (hl pins s σ H _ I h) λv s1 ⟨x,H1,I1,r1,q1⟩=>?_;obtain⟨x,rfl,q⟩:=q1;obtain⟨t,rfl⟩:=r1;refine wpAny_pyIter_strU ?_;refine⟨s1.heap.objs.size,[s1.heap.objs.size],_,_,H1,rfl,I1.kept (t':=s1.toks) λb o e=>G6 _ e,AB x t _,⟨_,Ha _ rfl,rfl,rfl⟩,λb hb=>?_,q⟩;have e:b=s1.heap.objs.size:=by simpa using hb
 subst e;exact I1.fpOk (Hr _) (I1.hok.fresh (Hr _))
noncomputable def DZ(K:HW)(a:Addr)(n:Nat):It:=
 ⟨λi H=>∃xs x,aN K H a xs/\i<n/\xs[n-1-i]?=some x,λi H x H'=>H'=H/\∀xs,aN K H a xs->xs[n-1-i]?=some x,λi _=>i=n⟩
theorem zU{P:Ig}{w:Ij}{K:HW}{tg:Expr}(a it:Addr)(n:Nat):so P w K tg (DZ K a n) [it] it (λi h=>h.IsRevIter it a ((n:Int)-1-(i:Int))) where
 mem:=by simp
 obj:=λi h st b hb=>by
  have e:b=it:=by simpa using hb
  subst e;obtain⟨o,e,c,d⟩:=st;exact⟨o,e,λv z=>by rw[d]at z;cases z⟩
 keep:=λi h h' st k=>st.at λo e=>k it (by simp) o e
 item:=by
  intro X hP hw hK hc i pins s σ H E I hf st hg;subst hP hw hK;obtain⟨xs,x,hq,hi,hx⟩:=hg;obtain⟨its,rv,p,hz⟩:=I.list hq;obtain⟨u,hu,ru⟩:=rv.get hx;obtain⟨f0,f1,f2,f3,f4,f5⟩:=hf it (by simp);have e:(n:Int)-1-(i:Int)=((n-1-i:Nat):Int):=by omega
  have st1:=st;rw[e]at st1;refine wpAny_pyNext_rev_item st1 p.isList (x:=u) (by simpa using hu) λh' st' sb=>?_;have e2:((n-1-i:Nat):Int)-1=(n:Int)-1-((i+1:Nat):Int):=by omega
  rw[e2]at st';have I1:Inv X pins σ H {s with heap:=h' }:=I.turned (t':=s.toks) (λb o hb e=>(sb.2 b hb).trans e) f0 f1 f3 f4 f5;obtain⟨o,e,c,d⟩:=id st';exact⟨u,rfl,uf (s:={s with heap:=h' }) e c d nofun ⟨x,H,I1,ru,⟨rfl,λys hy=>by rw[I.list_inj hy hq];exact hx⟩,st',λb hb=>(hf b hb).1⟩⟩
 done:=by
  intro X hP hw hK hc i pins s σ H E I hf st hg;subst hP hw hK;obtain⟨f0,f1,f2,f3,f4,f5⟩:=hf it (by simp);have hi:i=n:=hg;subst hi;have e:(i:Int)-1-(i:Int) = -1:=by omega
  rw[e]at st;exact wpAny_pyNext_rev_end (I.ok.hd hc) st λh' eb=>⟨rfl,I.turned (t':=s.toks) (λb o hb e=>eb b o hb e) f0 f1 f3 f4 f5⟩
 self:=λ_ _ _ _ _ st h=>wpAny_pyIter_revIter st h
noncomputable def CK(K:HW)(ta:TA):TI:=λσ H R=>ta σ H λvs H1=>∃a xs,vs=[.ref a]/\aN K H1 a xs/\R (DZ K a xs.length) H1
theorem CS{a:Expr}{ta:TA}{p pos:Pos}(hg:Gl X "reversed")(hm:X.mg "reversed"=none)(ha:PA X [a] ta)(hs:autoParam (starEach [a] X.env=[(false,eval a X.env)]) zz0._auto_1):PI X tg (.Call (.Name "reversed" p) [a] [] pos) (CK X.K ta):=by
 intro pins s σ H R I h;refine Call_ (dL I hg hm boot_reversed (PyProof.Rows.callWith_type1 (bK (ha pos pins s σ H _ I h) λus s1 ⟨vs,H1,I1,r1,q1⟩=>?_) hs rfl));obtain⟨l,xs,rfl,hq,q⟩:=q1;obtain⟨u,rfl,ru⟩:=r1.one;cases ru;obtain⟨its,rv,pl,hz⟩:=I1.list hq;have hlen:=rv.length;refine call_reversed_list pl.isList ?_;have es:its.toArray.size=xs.length:=by rw[Hb,hlen]
 rw[es];have I2:Inv X pins σ H1 {s1 with heap:=s1.heap.push (revObj l ((xs.length:Int)-1))}:=I1.kept (t':=s1.toks) λb o e=>G6 _ e;have st:(s1.heap.push (revObj l ((xs.length:Int)-1))).IsRevIter s1.heap.objs.size l ((xs.length:Int)-1-((0:Nat):Int)):=⟨_,Ha _ rfl,rfl,by simp[revObj]⟩;refine wpAny_pyIter_revIter st ?_;refine⟨s1.heap.objs.size,[s1.heap.objs.size],_,_,H1,rfl,I2,zU l _ xs.length,st,λb hb=>?_,q⟩;have e:b=s1.heap.objs.size:=by simpa using hb
 subst e;exact I1.fpOk (Hr _) (I1.hok.fresh (Hr _))
noncomputable def Cb:V->Option Int->Option Int->Hp->VK->Prop:=λx lo hi H Q=>∃z,x=.str z/\z.length<=sizeLine/\Q (.str (Txt.slice z lo hi)) H
theorem Ax:Dj X Cb:=by
 intro pins s σ H x v vl vu lo hi sl Q I rx hs pl pu h;obtain⟨z,rfl,hz,q⟩:=h;obtain⟨t,rfl⟩:=rx;have fin:∀t' k,EP X pins σ Q (.str (Txt.slice z lo hi) t') {s with toks:=k}:=λt' k=>⟨.str _,H,I.tok k,⟨t',rfl⟩,q⟩;refine⟨"str",_,F.slot_str_getitem.lookup,typeIs_str _ _ _,?_⟩;cases pl with
 |none=>
  cases pu with
  |none=>exact wpAny_getItem_str_slice (l:=none) (u:=none) (st:=none) hs rfl (post_val_or_str ⟨Hy (Txt.slice_le z _ _) hz,fin⟩)
  |int j uj=>exact wpAny_getItem_str_slice (l:=none) (u:=some (j,uj)) (st:=none) hs rfl (post_val_or_str ⟨Hy (Txt.slice_le z _ _) hz,fin⟩)
 |int i ui=>
  cases pu with
  |none=>exact wpAny_getItem_str_slice (l:=some (i,ui)) (u:=none) (st:=none) hs rfl (post_val_or_str ⟨Hy (Txt.slice_le z _ _) hz,fin⟩)
  |int j uj=>exact wpAny_getItem_str_slice (l:=some (i,ui)) (u:=some (j,uj)) (st:=none) hs rfl (post_val_or_str ⟨Hy (Txt.slice_le z _ _) hz,fin⟩)
noncomputable def Em(sep:Str)(ta:TA):TE:=λσ H Q=>ta σ H λvs H1=>∃x,vs=[.str x]/\x.length<=1000/\sep.length<=1000/\Q (.str (Txt.join sep (x.cps.toList.reverse.map λc=>(⟨#[c]⟩:Str)))) H1
theorem ux{e:Expr}{ta:TA}{sep:Str}{j:Nat}{p0 ap p1 p2 cpos:Pos}(hc:X.calm=true)(hg:Gl X "reversed")(hm:X.mg "reversed"=none)(ha:PA X [e] ta)
  (hfew:autoParam (((backTo cpos (starEach [.Call (.Name "reversed" p1) [e] [] p2] X.env)).all (λx=>!x.1)&&(backToKw cpos (keywordEach [] X.env)).all (λx=>x.1.isSome)
   && decide ([Expr.Call (.Name "reversed" p1) [e] [] p2].length+([]:List Keyword).length+(if([]:List Keyword).isEmpty then 0 else 1)<30))=true) zz0._auto_1)
  (hline:autoParam ((ap.endLine==cpos.line)=true) zz0._auto_1) (hs:autoParam (starEach [e] X.env=[(false,eval e X.env)]) zz0._auto_1) :
  PE X (.Call (.Attribute (.Constant (.str sep) j p0) "join" ap) [.Call (.Name "reversed" p1) [e] [] p2] [] cpos) (Em sep ta):=by
 intro pins s σ H Q I h;refine wpAny_Call_method_late rfl hfew hline rfl (bK (iW (X:=X) pins s σ H (λv H1=>v=.str sep/\H1=H) I ⟨rfl,rfl⟩) λv s1 ⟨x,H1,I1,r1,hx⟩=>?_);obtain⟨rfl,rfl⟩:=hx;obtain⟨t0,rfl⟩:=r1;refine⟨"str",_,F.plainAttrs_str,F.slot_str_join,F.type_str_join,typeIs_str _ _ _,(λa z=>nomatch z),?_⟩;refine Calls.callWith_builtin rfl (Calls.evalArgs_plain ?_);show wpAny _ _ (spliced ((false,eval (.Call (.Name "reversed" p1) [e] [] p2) X.env)::[])) _ _ s1;refine Calls.spliced_cons ?_;refine Call_ (dL I1 hg hm boot_reversed (PyProof.Rows.callWith_type1 (bK (ha p2 pins s1 σ H1 _ I1 h) λus s2 ⟨vs,H2,I2,r2,q2⟩=>?_) hs rfl));obtain⟨x,rfl,hz,hsp,q⟩:=q2;obtain⟨u,rfl,ru⟩:=r2.one;obtain⟨t,rfl⟩:=ru;have hsl:sizeLine=16777216:=sizeLine_eq;refine lw ⋯ (Calls.spliced_nil ?_);have I3:Inv X pins σ H2 {s2 with heap:=s2.heap.push (vi x t ((x.length:Int)-1)),toks:=s2.toks+1+1}:=I2.kept λb o e=>G6 _ e;have fp:=I2.fpOk (b:=s2.heap.objs.size) (H':=H2) (Hr _) (I2.hok.fresh (Hr _));obtain⟨f0,f1,f2,f3,f4,f5⟩:=fp;refine yw (I3.ok.hd hc) (I:=s2.heap.objs.size) (x:=x) (t:=t) ⟨_,Ha _ rfl,rfl,rfl⟩ hz hsp λs' t' k keep eg ed eo=>?_;obtain⟨h',g',d',k',o'⟩:=s';cases eg;cases ed;cases eo;exact⟨.str _,H2,I3.turned (t':=k) (λb o hb e=>keep b o hb e) f0 f1 f3 f4 f5,⟨t',rfl⟩,q⟩
noncomputable def BL:V->Value
 | .ty n=>.type n
 | .ref a=>.ref a
 |_=>.none
noncomputable def ri:V->Bool
 | .ty _=>true
 | .ref _=>true
 |_=>false
theorem AS{c:V}{u:Value}(r:ba c u)(h:ri c=true):u=BL c:=by
 cases c with
 |ty n=>exact r
 |ref a=>exact r
 |_=>cases h
noncomputable def CH(K:HW):List V->Hp->VK->Prop:=λxs H Q=>∃x c t b,xs=[x,c]/\ri c=true/\jW K H x t/\PySem.W.kitOne K t (BL c)=some b/\Q (.bl b) H
theorem d_:ft X (.builtin "isinstance") (CH X.K):=by
 intro pins s σ H xs us Q I r h;obtain⟨x,c,t,b,rfl,hc,ty,e,q⟩:=h;obtain⟨u,v,rfl,ru,rv⟩:=r.two;rw[AS rv hc];exact xD I ru ty e λtk=>⟨.bl b,H,I.tok tk,rfl,q⟩
theorem zN(K:HW)(n:String):PySem.W.kitOne K (.type n) (.type n)=some true:=by
 unfold PySem.W.kitOne;rw[if_pos (beq_self_eq_true _)]
inductive Dt where
 |non | bl (b:Bool) | int (i:Int) | str (x:Str) | lst (ds:List Dt) | tup (ds:List Dt)
mutual
noncomputable def mO(K:HW)(H:Hp):Dt->V->Prop
 | .non,v=>v=.non
 | .bl b,v=>v=.bl b
 | .int i,v=>v=.int i
 | .str x,v=>v=.str x
 | .lst ds,v=>∃a xs,v=.ref a/\aN K H a xs/\je K H ds xs
 | .tup ds,v=>∃a xs,v=.ref a/\bx K H a xs/\je K H ds xs
noncomputable def je(K:HW)(H:Hp):List Dt->List V->Prop
 | [],xs=>xs=[]
 |d::ds,xs=>∃x r,xs=x::r/\mO K H d x/\je K H ds r
end
mutual
noncomputable def Dt.dep:Dt->Nat
 | .lst ds=>Dt.deps ds+1
 | .tup ds=>Dt.deps ds+1
 |_=>0
noncomputable def Dt.deps:List Dt->Nat
 | []=>0
 |d::ds=>max (Dt.dep d) (Dt.deps ds)
end
theorem je.length{K:HW}{H:Hp}:∀{ds:List Dt} {xs:List V},je K H ds xs->xs.length=ds.length
 | [],_,h=>by unfold je at h;rw[h];rfl
 |d::ds,xs,h=>by
  unfold je at h;obtain⟨x,r,rfl,_,h2⟩:=h;simp[je.length h2]
theorem je.get{K:HW}{H:Hp}:∀{ds:List Dt} {xs:List V} {j:Nat} {x:V},je K H ds xs->xs[j]?=some x->∃d,ds[j]?=some d/\mO K H d x
 | [],_,_,_,h,e=>by unfold je at h;rw[h]at e;simp at e
 |d::ds,xs,j,x,h,e=>by
  unfold je at h;obtain⟨y,r,rfl,h1,h2⟩:=h;cases j with
  |zero=>simp at e;subst e;exact⟨d,rfl,h1⟩
  |succ j=>
   obtain⟨d',e1,e2⟩:=je.get (j:=j) h2 (by simpa using e);exact⟨d',by simpa using e1,e2⟩
theorem kK:∀{ds:List Dt} {j:Nat} {d:Dt},ds[j]?=some d->d.dep<=Dt.deps ds
 | [],_,_,e=>by simp at e
 |d'::ds,0,d,e=>by simp at e;subst e;unfold Dt.deps;omega
 |d'::ds,j+1,d,e=>by
  have:=kK (ds:=ds) (j:=j) (by simpa using e);unfold Dt.deps;omega
theorem tM(n:Nat):(List.range n).all (λ_=>true)=true:=by simp
theorem CU{pins:HX}{σ:St}{H:Hp}{s:HZ}(I:Inv X pins σ H s):∀(n:Nat) (d:Dt) (A:Ii) {v u:V} {vv uu:Value},d.dep<=n->A.units+n<cLine->mO X.K H d v->mO X.K H d u->ba v vv->ba u uu->SeqAt.EqAt A s vv uu true:=by
 intro n
 induction n with
 |zero=>
  intro d A v u vv uu hd hA h1 h2 r1 r2;cases d with
  |non=>unfold mO at h1 h2;subst h1 h2;have:=gu (A:=A) (s:=s) r1 r2 rfl rfl;exact this
  |bl b=>unfold mO at h1 h2;subst h1 h2;have:=gu (A:=A) (s:=s) r1 r2 rfl rfl;simpa[uL]using this
  |int i=>unfold mO at h1 h2;subst h1 h2;have:=gu (A:=A) (s:=s) r1 r2 rfl rfl;simpa[uL]using this
  |str x=>unfold mO at h1 h2;subst h1 h2;have:=gu (A:=A) (s:=s) r1 r2 rfl rfl;simpa[uL]using this
  |lst ds=>unfold Dt.dep at hd;omega
  |tup ds=>unfold Dt.dep at hd;omega
 |succ n ih=>
  intro d A v u vv uu hd hA h1 h2 r1 r2;cases d with
  |non=>unfold mO at h1 h2;subst h1 h2;have:=gu (A:=A) (s:=s) r1 r2 rfl rfl;exact this
  |bl b=>unfold mO at h1 h2;subst h1 h2;have:=gu (A:=A) (s:=s) r1 r2 rfl rfl;simpa[uL]using this
  |int i=>unfold mO at h1 h2;subst h1 h2;have:=gu (A:=A) (s:=s) r1 r2 rfl rfl;simpa[uL]using this
  |str x=>unfold mO at h1 h2;subst h1 h2;have:=gu (A:=A) (s:=s) r1 r2 rfl rfl;simpa[uL]using this
  |lst ds=>
   unfold mO at h1 h2;obtain⟨a,xs,rfl,ha,hxs⟩:=h1;obtain⟨b,ys,rfl,hb,hys⟩:=h2;cases r1;cases r2
   by_cases hab:a=b
   ·subst hab;exact SeqAt.EqAt.same _
   ·unfold Dt.dep at hd
    obtain⟨its,ra,pa,_⟩:=I.list ha;obtain⟨its2,rb,pb,_⟩:=I.list hb;have l1:=ra.length;have l2:=rb.length;have l3:=hxs.length;have l4:=hys.length
    have hsz:its.toArray.size=its2.toArray.size:=by simp;omega
    have q:=SeqAt.RcAt.lists (A:=A) (s:=s) (e:=λ_=>true) pa.isList pb.isList hsz ⋯ λj g1 g2=>by
     have g1':j<its.length:=by simpa using g1
     have g2':j<its2.length:=by simpa using g2
     have x1:xs[j]?=some xs[j]:=G4 ⋯;have y1:ys[j]?=some ys[j]:=G4 ⋯;obtain⟨d,e1,rd1⟩:=hxs.get x1;obtain⟨d',e2,rd2⟩:=hys.get y1;rw[e1]at e2;cases e2
     obtain⟨w1,f1,rr1⟩:=ra.get x1;obtain⟨w2,f2,rr2⟩:=rb.get y1;rw[G4 g1']at f1;rw[G4 g2']at f2;cases f1;cases f2
     have hdep:=kK e1;simp only[HM];exact ih d A.in1 ⋯ (by show A.units+1+n<cLine;omega) rd1 rd2 rr1 rr2
    rw[tM]at q;exact SeqAt.EqAt.of_refs hab q
  |tup ds=>
   unfold mO at h1 h2;obtain⟨a,xs,rfl,ha,hxs⟩:=h1;obtain⟨b,ys,rfl,hb,hys⟩:=h2;cases r1;cases r2
   by_cases hab:a=b
   ·subst hab;exact SeqAt.EqAt.same _
   ·unfold Dt.dep at hd
    obtain⟨its,ra,pa,_⟩:=I.tuple ha;obtain⟨its2,rb,pb,_⟩:=I.tuple hb;have l1:=ra.length;have l2:=rb.length;have l3:=hxs.length;have l4:=hys.length
    have q:=SeqAt.RcAt.tuples (A:=A) (s:=s) (e:=λ_=>true) (show s.heap.IsTuple a its.toArray from pa) (show s.heap.IsTuple b its2.toArray from pb) ⋯ λj g1 g2=>by
     have g1':j<its.length:=by simpa using g1
     have g2':j<its2.length:=by simpa using g2
     have x1:xs[j]?=some xs[j]:=G4 ⋯;have y1:ys[j]?=some ys[j]:=G4 ⋯;obtain⟨d,e1,rd1⟩:=hxs.get x1;obtain⟨d',e2,rd2⟩:=hys.get y1;rw[e1]at e2;cases e2
     obtain⟨w1,f1,rr1⟩:=ra.get x1;obtain⟨w2,f2,rr2⟩:=rb.get y1;rw[G4 g1']at f1;rw[G4 g2']at f2;cases f1;cases f2
     have hdep:=kK e1;simp only[HM];exact ih d A.in1 ⋯ (by show A.units+1+n<cLine;omega) rd1 rd2 rr1 rr2
    have e0:((List.range (min its.toArray.size its2.toArray.size)).all (λ_=>true)&&its.toArray.size==its2.toArray.size)=true:=by
     rw[tM,Bool.true_and];simp;omega
    rw[e0]at q;exact SeqAt.EqAt.of_refs hab q
end
end L2
namespace bz
noncomputable abbrev ED:=List Nat
noncomputable abbrev bz:=List ED
def e_(p:bz)(r c:Nat):Prop:=p.length=r/\∀x∈p,x.length=c
noncomputable def jh(p:bz):bz:=p.map List.reverse
noncomputable def col(p:bz)(i:Nat):ED:=p.reverse.map λx=>x.getD i 0
noncomputable def gb(p:bz):bz:=(List.range (p.headD []).length).map (col p)
noncomputable def bL:Nat->bz->bz
 |0,p=>p
 |n+1,p=>bL n (gb p)
noncomputable def turned(p:bz)(t:Nat):bz:=bL (t%4) (if 4<=t then jh p else p)
theorem zx{p:bz}{r c i:Nat}(h:e_ p r c)(hi:i<r):(p.getD i []).length=c:=by
 have hl:i<p.length:=by rw[h.1];exact hi
 rw[List.getD_eq_getElem?_getD,G4 hl];exact h.2 _ (Hc hl)
theorem bT{p:bz}{r c:Nat}(h:e_ p r c)(hr:0<r):(p.headD []).length=c:=by
 have:=zx h hr;cases p with
 |nil=>have:=h.1;simp at this;omega
 |cons x p=>simpa using this
theorem ja{p:bz}{r c:Nat}(h:e_ p r c):e_ (jh p) r c:=by
 refine⟨by simp[jh,h.1],λx hx=>?_⟩;obtain⟨y,hy,rfl⟩:=HJ.mp hx;rw[Hk];exact h.2 y hy
theorem sh{p:bz}{r c:Nat}(h:e_ p r c)(hr:0<r):e_ (gb p) c r:=by
 refine⟨by unfold gb;rw[G7,List.length_range,bT h hr],λx hx=>?_⟩;obtain⟨i,_,rfl⟩:=HJ.mp hx;simp[col,h.1]
theorem c5:∀(n:Nat) {p:bz} {r c:Nat},e_ p r c->0<r->0<c->e_ (bL n p) (if n%2=0 then r else c) (if n%2=0 then c else r)
 |0,_,_,_,h,_,_=>h
 |n+1,p,r,c,h,hr,hc=>by
  have:=c5 n (sh h hr) hc hr;show e_ (bL n (gb p)) _ _
  by_cases e:n%2=0
  ·rw[if_pos e,if_pos e]at this
   rw[if_neg ⋯,if_neg ⋯];exact this
  ·rw[if_neg e,if_neg e]at this
   rw[if_pos ⋯,if_pos ⋯];exact this
theorem tF{p:bz}{r c:Nat}(h:e_ p r c)(hr:0<r)(hc:0<c)(t:Nat):e_ (turned p t) (if t%2=0 then r else c) (if t%2=0 then c else r):=by
 unfold turned;have e:t%4%2=t%2:=by omega
 rw[<- e]
 split
 ·exact c5 _ (ja h) hr hc
 ·exact c5 _ h hr hc
theorem qA(a b:Nat)(p:bz):bL a (bL b p)=bL (b+a) p:=by
 induction b generalizing p with
 |zero=>rw[Nat.zero_add];rfl
 |succ b ih=>show bL a (bL b (gb p))=_;rw[ih,Nat.add_right_comm];rfl
noncomputable def after(t u:Nat):Nat:=if u<4 then t/4*4+(t+u)%4 else(1-t/4)*4+(u+8-t)%4
noncomputable def dD(t:Nat):Nat:=if t<4 then(4-t)%4 else t
theorem nk{t u:Nat}(ht:t<8)(hu:u<8):after t u<8:=by unfold after;split<;>omega
theorem q_{t:Nat}(ht:t<8):dD t<8:=by unfold dD;split<;>omega
end bz
namespace QL
open PySem L2 bz
noncomputable def tx(r:HY):Str:=⟨r.toArray⟩
noncomputable def aH(p:bz):List V:=p.map λr=>V.str (tx r)
theorem aw(r:HY):(tx r).length=r.length:=by show r.toArray.size=r.length;simp
theorem dO(r:HY):(tx r).cps.toList=r:=by show r.toArray.toList=r;simp
theorem aC(p:bz):(aH p).length=p.length:=by unfold aH;simp
theorem bw{p:bz}{i:Nat}(h:i<p.length):(aH p)[i]?=some (V.str (tx p[i])):=by unfold aH;rw[G9,G4 h];rfl
theorem k8(p:bz)(r:HY):aH (p++[r])=aH p++[V.str (tx r)]:=by unfold aH;simp
theorem Al:∀(ys:List (List Nat)),Txt.join (Str.ofString "") (ys.map tx)=tx ys.flatten
 | []=>rfl
 |y::ys=>by
  have key:∀(zs:List (List Nat)) (a:HY),(zs.map tx).foldl (λacc (p:Str)=>acc++(Str.ofString "").cps++p.cps) a.toArray=(a++zs.flatten).toArray:=by
   intro zs
   induction zs with
   |nil=>intro a;simp
   |cons z zs ih=>
    intro a;rw[Hx,List.foldl_cons];have e:a.toArray++(Str.ofString "").cps++(tx z).cps=(a++z).toArray:=by
     have e0:(Str.ofString "").cps=#[]:=rfl;rw[e0];show a.toArray ++ #[]++z.toArray=_;simp
    rw[e,ih];simp
  show(⟨(ys.map tx).foldl (λacc (p:Str)=>acc++(Str.ofString "").cps++p.cps) (tx y).cps⟩:Str)=_;show(⟨(ys.map tx).foldl (λacc (p:Str)=>acc++(Str.ofString "").cps++p.cps) y.toArray⟩:Str)=_;rw[key]
  rfl
theorem lQ(r:HY):Txt.join (Str.ofString "") (r.map λc=>(⟨#[c]⟩:Str))=tx r:=by
 have e:(r.map λc=>(⟨#[c]⟩:Str))=(r.map λc=>[c]).map tx:=by rw[Hh];rfl
 rw[e,Al]
 congr 1
 clear e
 induction r with
 |nil=>rfl
 |cons c r ih=>simp[ih]
def B1(p:bz):Prop:=p.length<=64/\∀r∈p,r.length<=64
theorem bb{n:Nat}(h:n<=1000000):n<sizeLine:=by have:=sizeLine_eq;omega
theorem am{n:Nat}(h:n<=1000000):n<=sizeLine:=by have:=sizeLine_eq;omega
theorem af{H:Hp}{l:Addr}{o:HO}(h:H l=none):az H (au H l o):=λb u e=>by rw[ao (aA e h)];exact e
theorem dI{H0 H:Hp}{l:Addr}{o:HO}(s:az H0 H)(h:H0 l=none):az H0 (au H l o):=λb u e=>by rw[ao (aA e h)];exact s b u e
theorem jk{p:bz}{r c i:Nat}(h:e_ p r c)(hi:i<r):∃hl:i<p.length,(p[i]).length=c:=⟨by rw[h.1];exact hi,h.2 _ (Hc _)⟩
def c7(H:Hp)(p:bz)(Q:VK):Prop:=∀(l:Addr) (H':Hp),H l=none->H' l=some (.lst (aH p))->az H H'->Q (.ref l) H'
theorem qv{α:Type}{xs:List α}{i:Int}(h0:0<=i)(h1:i<xs.length):∃v,v∈xs/\dY xs i=some v:=by
 have hb:i.toNat<xs.length:=by omega
 obtain⟨j,hj⟩:∃j:Nat,i=(j:Int):=⟨i.toNat,⋯⟩;subst hj;exact⟨xs[j]'⋯,Hc _,br (G4 ⋯)⟩
theorem rj(K:HW):PySem.W.kitOne K (.type "int") (.type "bool")=some false:=by kernel_rfl
end QL
namespace L2
open PySem PySem.Spec PyProof.Rows
section
variable {X:Cx}
theorem aU:ft X (.builtin "len") (λxs H Q=>∃p ys,xs=[.ref p]/\aN X.K H p ys/\Q (.int ys.length) H):=λpins s σ H xs us Q I r ⟨p,ys,e,h,q⟩=>rn pins s σ H xs us Q I r ⟨p,ys,e,.inl h,q⟩
theorem zj{K:HW}{g:TG}{ti:TT}{te:TE}{σ:St}{H:Hp}{Q:List V->Hp->Prop}{a:Addr}{xs:List V}(Pv:Nat->List V->St->Hp->Prop)(h0:Pv 0 [] σ H)(hz:∀i acc σ H,Pv i acc σ H->acc.length<sizeLine)(hi:∀i acc σ H,Pv i acc σ H->i<=xs.length)
  (hl:∀i acc σ H,Pv i acc σ H->aN K H a xs)
  (hs:∀i x acc σ H,xs.reverse[i]?=some x->Pv i acc σ H->g x σ H λσ2 H3=>ti σ2 H3 λb H4=>if b=true then te σ2 H4 λv H5=>Pv (i+1) (acc++[v]) σ2 H5 else Pv (i+1) acc σ2 H4)
  (he:∀acc σ H,Pv xs.length acc σ H->Q acc H):gZ (DZ K a xs.length) g ti te σ H Q:=by
 have rv:∀{i:Nat} {x:V},i<xs.length->xs[xs.length-1-i]?=some x->xs.reverse[i]?=some x:=fun{i x} hi e=>by rw[List.getElem?_reverse hi];exact e
 exact jH (J:=DZ K a xs.length) (g:=g) (ti:=ti) (te:=te) (Q:=Q) (n:=xs.length) Pv h0 hz hi (λacc σ H w=>rfl)
  (λi acc σ H hlt w=>⟨xs,xs[xs.length-1-i]'⋯,hl _ _ _ _ w,hlt,G4 ⋯⟩) (λi x acc σ H H2 hlt w y=>by obtain⟨rfl,hx⟩:=y;exact hs i x acc σ H2 (rv hlt (hx xs (hl _ _ _ _ w))) w) he
theorem By(i j:Int):(Bv (.int i) (.int j)=true)=True:=by simp[Bv]
theorem iy{a:Expr}{ta:TE}(ha:PE X a ta)(he:∀whole,isTrue a X.env whole=(do let v <- whole;standAt a.pos;holding [v] (truthy v))):PT X a (wc ta):=by
 intro pins s σ H Q I h;rw[he];refine wpAny_bind (bK (ha pins s σ H _ I h) λv s1 ⟨x,H1,I1,r1,k,e,q⟩=>?_);subst e;cases r1;exact wpAny_bind (wpAny_standAt (wpAny_holding (wpAny_truthy_bool ⟨H1,I1,q⟩)))
def yN(J:It)(g:TG)(tb:TS)(D:iJ)(σ:St)(H:Hp):Prop:=∃W:Nat->Nat->St->Hp->Prop,(∃m,W 0 m σ H)/\∀i m σ H,W i m σ H ->
 (J.stop i H/\D.nx σ H)\/(J.go i H/\∃N:St->Hp->Prop,(∀σ' H',N σ' H'->∃m',m'<m/\W (i+1) m' σ' H')/\∀x H',J.yld i H x H'->g x σ H' λσ2 H2=>tb {D with nx:=N,ct:=N,bk:=D.nx} σ2 H2)
noncomputable def yR(wi:TI)(g:TG)(tb:TS):TS:=λD σ H=>wi σ H λJ H1=>yN J g tb D σ H1
theorem bD{tg iter:Expr}{body:List Stmt}{wi:TI}{g:TG}{tb:TS}{pos:Pos}(hp:PassesOwn (model X.prog X.w) X.A X.env X.xe)(hc:X.calm=true)(hi:PI X tg iter wi)(hg:PG X tg g)(hb:ut X body tb)
  (hs:autoParam (∀x,foldedSetIterable iter X.env x=pure x) zz4._auto_1):PS X (.For tg iter body [] pos) (yR wi g tb):=B' hp hc hi hg hb hs
section
variable {K:HW}{g:TG}{tb:TS}{D:iJ}{σ:St}{H:Hp}
theorem cR{a:Addr}{xs:List V}(Pv:Nat->St->Hp->Prop)(h0:Pv 0 σ H)(hl:∀i σ H,i<=xs.length->Pv i σ H->aN K H a xs)
  (hs:∀i x σ H,xs[i]?=some x->Pv i σ H->g x σ H λσ2 H2=>tb {D with nx:=Pv (i+1),ct:=Pv (i+1),bk:=D.nx} σ2 H2) (hd:∀σ H,Pv xs.length σ H->D.nx σ H):yN (zz K a) g tb D σ H:=zk Pv h0 hl hs hd
theorem Au{a:Addr}{xs:List V}(Pv:Nat->St->Hp->Prop)(h0:Pv 0 σ H)(hl:∀i σ H,i<=xs.length->Pv i σ H->bx K H a xs)
  (hs:∀i x σ H,xs[i]?=some x->Pv i σ H->g x σ H λσ2 H2=>tb {D with nx:=Pv (i+1),ct:=Pv (i+1),bk:=D.nx} σ2 H2) (hd:∀σ H,Pv xs.length σ H->D.nx σ H):yN (Do K a) g tb D σ H:=Bc Pv h0 hl hs hd
theorem cH{lo:Int}{n:Nat}(Pv:Nat->St->Hp->Prop)(h0:Pv 0 σ H)
  (hs:∀i σ H,i<n->Pv i σ H->g (.int (lo+i)) σ H λσ2 H2=>tb {D with nx:=Pv (i+1),ct:=Pv (i+1),bk:=D.nx} σ2 H2) (hd:∀σ H,Pv n σ H->D.nx σ H):yN (zd lo n) g tb D σ H:=xE Pv h0 hs hd
end
end
theorem aR:bootBuiltins "len"=some (.builtin "len"):=by decide +kernel
theorem fW:bootBuiltins "list"=some (.type "list"):=by decide +kernel
theorem zw:bootBuiltins "tuple"=some (.type "tuple"):=by decide +kernel
theorem zG:bootBuiltins "int"=some (.type "int"):=by decide +kernel
theorem Bu:bootBuiltins "bool"=some (.type "bool"):=by decide +kernel
theorem gw:bootBuiltins "isinstance"=some (.builtin "isinstance"):=by decide +kernel
theorem CM:bootBuiltins "all"=some (.builtin "all"):=by decide +kernel
end L2
namespace PtM
open PySem PySem.Builtin.Str PySem.StrLaws
end PtM
namespace L2
open PySem PySem.Spec PyProof.Rows
section
variable {X:Cx}{a b c d:Expr}{ta tb tc td:TE}{pos:Pos}
noncomputable def Cv(K:HW):List V->Hp->VK->Prop:=λxs H Q=>∃(p:Addr) (bs:List Bool),xs=[.ref p]/\aN K H p (bs.map V.bl)/\Q (.bl (bs.all id)) H
theorem wv:∀{bs:List Bool} {us:Ia} {i:Nat} {u:Value},aT (bs.map V.bl) us->us[i]?=some u->∃k,bs[i]?=some k/\u=.bool k
 | [],_,_,_,.nil,e=>by simp at e
 |k::bs,_,0,u,.cons r _,e=>by simp at e;subst e;exact⟨k,rfl,r⟩
 |k::bs,_,i+1,u,.cons _ t,e=>by
  obtain⟨k',h1,h2⟩:=wv (i:=i) t (by simpa using e);exact⟨k',by simpa using h1,h2⟩
theorem xP(bs:List Bool):((List.range bs.length).all λi=>(bs[i]?).getD true)=bs.all id:=by
 rw[Bool.eq_iff_iff,HK,HK]
 constructor
 ·intro h x hx
  obtain⟨i,hi,e⟩:=List.getElem_of_mem hx;have q:=h i (List.mem_range.mpr hi);rw[G4 hi,Option.getD_some,e]at q;exact q
 ·intro h i hi
  have hi':=List.mem_range.mp hi;rw[G4 hi',Option.getD_some];exact h _ (Hc hi')
theorem zf(hc:X.calm=true):ft X (.builtin "all") (Cv X.K):=by
 intro pins s σ H xs us Q I r h;obtain⟨p,bs,rfl,hs,q⟩:=h;obtain⟨u,rfl,ru⟩:=r.one;cases ru;obtain⟨its,rv,pl,_⟩:=I.list hs;have hlt:p<s.heap.objs.size:=by obtain⟨_,e,_⟩:=pl.isList;exact Hu e
 have hlen:its.length=bs.length:=by rw[<- rv.length,G7]
 refine call_all_walk (wpAny_pyIter_list pl.isList ?_);refine⟨s.heap.objs.size,[s.heap.objs.size,p],[s.heap.objs.size],its.toArray.size,_,_,λi=>(bs[i]?).getD true,rfl,Walks.list (A:=X.A.in1) (I.ok.hd hc) _ p (Hm hlt) its.toArray,
  ⟨⟨_,Ha _ rfl,rfl,rfl⟩,pl.isList.push _⟩,λi v s' Q' E' hP hQ=>?_,λh' tk hk=>?_⟩
 ·obtain⟨k,e,rfl⟩:=wv (i:=i) rv (by simpa using hP)
  dsimp only at hQ;rw[e,Option.getD_some]at hQ;exact wpAny_truthy_bool hQ
 ·have e:((List.range its.toArray.size).all λi=>(bs[i]?).getD true)=bs.all id:=by rw[Hb,hlen];exact xP bs
  rw[e];exact⟨.bl _,H,I.kept (t':=tk) λb o eo=>hk b o (λhm=>by rw[G8.mp hm]at eo;exact Hz _ (Hu eo)) (G6 _ eo),rfl,q⟩
end
section
variable {K:HW}{g:TG}{ti:TT}{te:TE}{σ:St}{H:Hp}{Q:List V->Hp->Prop}
end
end L2
namespace QL
open PySem L2 bz PySem.Builtin PySem.Builtin.Str
theorem vP(row:HY)(i k:Nat)(h:i+k<=row.length):((List.range k).map λm=>i+m).filterMap (λj=>row[j]?)=(row.drop i).take k:=by
 rw[List.filterMap_map]
 induction k with
 |zero=>simp
 |succ k ih=>
  rw[List.range_succ,List.filterMap_append,ih ⋯,List.take_add_one,List.getElem?_drop];have e:i+k<row.length:=by omega
  simp[G4 e]
noncomputable def y9(n:Nat)(d:Int):Option Int->Int
 |none=>d
 |some i=>max 0 (min (if i<0 then i+(n:Int) else i) (n:Int))
theorem tR(n d:Nat)(v:Option Int):y9 n (d:Int) v=((HT.sIx n d v:Nat):Int):=by
 cases v with
 |none=>rfl
 |some v=>
  show max 0 (min (if v<0 then v+(n:Int) else v) (n:Int))=(((if v<0 then(v+(n:Int)).toNat else min v.toNat n:Nat)):Int)
  by_cases hv:v<0
  ·rw[if_pos hv,if_pos hv,Int.max_def,Int.min_def]
   split<;>split at * <;> omega
  ·rw[if_neg hv,if_neg hv,Int.max_def,Int.min_def]
   split<;>split at * <;> omega
theorem v4(lo hi:Option Int)(n:Nat):strSliceIndices lo hi 1 n=sliceRange (y9 n ((0:Nat):Int) lo) (y9 n (n:Int) hi) 1:=by cases lo<;>cases hi<;>rfl
theorem p_(row:HY)(lo hi:Option Int):Txt.slice (tx row) lo hi=tx ((row.drop (HT.sIx row.length 0 lo)).take (HT.sIx row.length row.length hi-HT.sIx row.length 0 lo)):=by
 have hl:=HT.sIx_le row.length 0 (Hs _) lo;have hh:=HT.sIx_le row.length row.length (Hr _) hi;have key:strSliceIndices lo hi 1 (tx row).length=(List.range (HT.sIx row.length row.length hi-HT.sIx row.length 0 lo)).map λm=>HT.sIx row.length 0 lo+m:=by
  rw[aw,v4,tR,tR];generalize HT.sIx row.length 0 lo=a;generalize HT.sIx row.length row.length hi=b;unfold sliceRange;have en:(if(1:Int)>0 then(if(a:Int)<(b:Int) then((b:Int)-(a:Int)+1-1)/1 else 0) else(if(a:Int)>(b:Int) then((a:Int)-(b:Int)-1-1)/(-1) else 0)).toNat=b-a:=by
   rw[if_pos nofun]
   split<;>omega
  show(List.range (if(1:Int)>0 then(if(a:Int)<(b:Int) then((b:Int)-(a:Int)+1-1)/1 else 0) else(if(a:Int)>(b:Int) then((a:Int)-(b:Int)-1-1)/(-1) else 0)).toNat).map (fun(k:Nat)=>((a:Int)+1*(k:Int)).toNat)=_;rw[en];refine List.map_congr_left λm _=>?_;omega
 unfold Txt.slice;rw[key];generalize HT.sIx row.length 0 lo=a at hl ⊢;generalize HT.sIx row.length row.length hi=b at hh ⊢
 by_cases hab:a+(b-a)<=row.length
 ·have e:(((List.range (b-a)).map λm=>a+m).filterMap λj=>(tx row).cps[j]?)=(row.drop a).take (b-a):=by
   rw[<- vP row a (b-a) hab]
   congr 1
   funext j
   show row.toArray[j]?=row[j]?;simp
  rw[e]
  split
  ·rename_i hw
   simp at hw;rw[aw]at hw;have ha0:a=0:=by omega
   have hb0:b-a=row.length:=by omega
   rw[ha0,HU];rw[ha0]at hb0;rw[hb0,HE]
  ·rfl
 ·exact absurd hab ⋯
end QL
namespace L2
open PySem PySem.Spec PyProof.Rows
section
variable {X:Cx}{K:HW}{tg:Expr}
theorem nX(hK:X.K=K):ft X (.builtin "len") (λxs H Q=>∃p ys,xs=[.ref p]/\aN K H p ys/\Q (.int ys.length) H):=hK▸aU
theorem tq(hK:X.K=K):B2 X (uK K):=hK▸mX
theorem k6(hK:X.K=K):B2 X (wZ K):=hK▸zu
theorem wG(hK:X.K=K):Dj X (AY K):=hK▸Ch
end
end L2
namespace PySem
open Sem (wp)
def TrD(cp:Value->Prop)(h base:Heap)(e:Addr)(cls:Value)(od:Ik)(fl:Value):Prop:=
 ∃oe vs T oT ts,h.get? e=some oe/\oe.cls=cls/\oe.dict=od/\oe.data=.fields vs/\vs[1]?=some (.ref T)/\base.get? T=none/\T≠e/\h.get? T=some oT/\oT.data=.fields ts/\ts[3]?=some fl/\∃cx,vs[2]?=some cx/\cp cx
structure kQ(cp:Value->Prop)(base:Heap)(l:List Env)(e:Addr)(cls:Value)(od:Ik)(fl:Value)(h:Heap):Prop where
 st:base.StaysIn h
 new:base.get? e=none
 ff:h.FunFrames base l
 tr:TrD cp h base e cls od fl
theorem nu(o:Obj)(f:Array Value->Array Value):(Obj.mapFields f o).dict=o.dict:=by unfold Obj.mapFields;split<;>rfl
section
variable {cp:Value->Prop}{M:Model}{A:Ii}{E:HV}{s:HZ}{base:Heap}{env:Env}{outer:List Env}{L e:Addr}{Q:Unit->Shared->Prop}
theorem v9{cls fl:Value}{od:Ik}{l:List Env}(x:kQ cp base l e cls od fl s.heap)(h:∀h',kQ cp base l e cls od .none h'->s.heap.UpToSlots h'->Q () {s with heap:=h' }):wpAny M A (setFlight (.ref e) none) Q E s:=by
 obtain⟨oe,vs,T,oT,ts,he,hc,ho,hd,h1,hnT,hTe,hT,hdT,h3,hcx⟩:=x.tr;have hsz:3<ts.size:=(Array.getElem?_eq_some_iff.mp h3).1;have oth:∀b,b≠T->(s.heap.update T (Obj.mapFields (·.setIfInBounds 3 Value.none))).get? b=s.heap.get? b:=λb hb=>G' _ _ (Ne.symm hb);have nrec:∀b o,s.heap.get? b=some o->(∀vs,o.data≠.fields vs)->b≠T:=λb o hb hnf q=>by rw[q,hT]at hb;injection hb with hb;subst hb;exact hnf ts hdT
 unfold setFlight;refine wpAny_bind (wpAny_field he hd h1 ?_);rw[if_pos (show(Value.ref T != Value.none)=true from by simp)];refine wpAny_setField hT hdT hsz (h _ ⟨λb o hb=>(oth b λq=>by rw[q,hnT]at hb;cases hb).trans (x.st b o hb),x.new,x.ff.of_keeps λb o hb hnf=>⟨o,(oth b (nrec b o hb hnf)).trans hb,rfl⟩,?_⟩ λb o hb hnf=>⟨o.slots,(oth b (nrec b o hb hnf)).trans hb⟩);exact⟨oe,vs,T,_,_,(oth e (Ne.symm hTe)).trans he,hc,ho,hd,h1,hnT,hTe,Hd _ hT (Obj.isFreed_of_fields (Obj.data_mapFields hdT _)),Obj.data_mapFields hdT _,by simp[hsz],hcx⟩
theorem Ao{oe:Obj}{vs:Array Value}{head:Value}{hadNext:Bool}(hfr:A.frames=some (env::outer))(hl:s.heap.FunFrames base (env::outer))(hf:env.frame=some L)
  (he:s.heap.get? e=some oe) (hkb:base.StaysIn s.heap) (hen:base.get? e=none) (hd:oe.data=.fields vs) (hsz:1<vs.size) (hcx:∃cx,vs[2]?=some cx/\cp cx)
  (h:∀h',kQ cp base (env::outer) e oe.cls oe.dict (rawInt L) h'->s.heap.UpToSlots h'->Q () {s with heap:=h' }) :
  wpAny M A (do let a <- frameOf env;let pl <- entryPlaceOf L hadNext;let b <- EntryCells.newEntry head a .none (rawInt L) .none pl;setField (.ref e) 1 b) Q E s:=by
 have hene:e∉(env::outer).filterMap (·.frame):=λhm=>by
  obtain⟨_,o,ho,hnf⟩:=hl.mem hm;rw[he]at ho;injection ho with ho;subst ho;exact hnf vs hd
 refine wpAny_bind (wpAny_frameOf_fun hfr hl hf λh₁ hs₁=>?_);refine wpAny_bind (wpAny_entryPlaceOf λpl hpl=>?_);unfold EntryCells.newEntry newFields;refine wpAny_bind (wpAny_newObj_type ?_ (hpl.sizeOk5 _ _ _ _ _));have he₁:h₁.get? e=some oe:=(hs₁.2.1 e hene).trans he;have kb₁:base.StaysIn h₁:=λb o hb=>(hs₁.2.1 b λhm=>by rw[(hl.mem hm).1]at hb;cases hb).trans (hkb b o hb);generalize hT0:({cls:=.type "traceback",dict:=none,data:=.fields ([head,.ref L,.none,rawInt L,.none]++(if pl.isEmpty then List.replicate 6 Value.none else pl)).toArray}:Obj)=To;have dTo:To.data=.fields ([head,.ref L,.none,rawInt L,.none]++(if pl.isEmpty then List.replicate 6 Value.none else pl)).toArray:=by rw[<- hT0]
 have he₂:=G6 (h:=h₁) To he₁;have hTe:h₁.objs.size≠e:=Nat.ne_of_gt (Hu he₁);have keep:∀b o,b≠e->h₁.get? b=some o->((h₁.push To).update e (Obj.mapFields (·.setIfInBounds 1 (Value.ref h₁.objs.size)))).get? b=some o:=λb o hbe hb=>by
  rw[G' _ _ (Ne.symm hbe)];exact G6 _ hb
 have nrec:∀b o,s.heap.get? b=some o->(∀vs,o.data≠.fields vs)->b≠e:=λb o hb hnf q=>by
  rw[q,he]at hb
  injection hb with hb
  subst hb;exact hnf vs hd
 refine wpAny_setField he₂ hd hsz (h _ ?_ ?_)
 ·have hd₃:=Obj.data_mapFields hd (·.setIfInBounds 1 (Value.ref h₁.objs.size))
  refine⟨λb o hb=>keep b o (λq=>by rw[q,hen]at hb;cases hb) (kb₁ b o hb),hen,hl.of_keeps λb o hb hnf=>?_,?_⟩
  ·obtain⟨sl,hs⟩:=hs₁.2.2 b o hb
   exact⟨_,keep b _ (nrec b o hb hnf) hs,rfl⟩
  ·refine⟨_,_,h₁.objs.size,To,_,Hd _ he₂ (Obj.isFreed_of_fields hd₃),Obj.cls_mapFields _ _,nu _ _,hd₃,by simp[hsz],kb₁.fresh,hTe,?_,dTo,?_,?_⟩
   ·rw[G' _ _ (Ne.symm hTe)]
    refine Ha _ ?_;rw[<- hT0];rfl
   ·first | (simp;done) | (rcases hpl with rfl | ⟨_,_,_,_,_,_,_,rfl⟩<;>simp)
   ·obtain⟨cx,h2,hp⟩:=hcx
    exact⟨cx,by rw[Array.getElem?_setIfInBounds_ne nofun];exact h2,hp⟩
 ·intro b o hb hnf
  obtain⟨sl,hs⟩:=hs₁.2.2 b o hb;exact⟨sl,keep b _ (nrec b o hb hnf) hs⟩
theorem DA{cls:Value}{od:Ik}(hfr:A.frames=some (env::outer))(hf:env.frame=some L)(x:kQ cp base (env::outer) e cls od .none s.heap)
  (h:∀h',kQ cp base (env::outer) e cls od (rawInt L) h'->s.heap.UpToSlots h'->Q () {s with heap:=h' }):wpAny M A (noteFrame (.ref e) env) Q E s:=by
 obtain⟨oe,vs,T,oT,ts,he,hc,ho,hd,h1,hnT,hTe,hT,hdT,h3,hcx⟩:=x.tr;subst hc ho;unfold noteFrame;simp only[hf];refine wpAny_bind (wpAny_field he hd h1 ?_);rw[if_pos (show(Value.ref T != Value.none)=true from by simp)];refine wpAny_bind (wpAny_field hT hdT h3 ?_);rw[if_neg (show ¬ ((Value.none==rawInt L)=true) from by simp[rawInt])];refine wpAny_bind (wpAny_setField hT hdT (Array.getElem?_eq_some_iff.mp h3).1 ?_);have oth:∀b,b≠T->(s.heap.update T (Obj.mapFields (·.setIfInBounds 3 Value.none))).get? b=s.heap.get? b:=λb hb=>G' _ _ (Ne.symm hb);have nrec:∀b o,s.heap.get? b=some o->(∀vs,o.data≠.fields vs)->b≠T:=λb o hb hnf q=>by rw[q,hT]at hb;injection hb with hb;subst hb;exact hnf ts hdT
 refine Ao hfr (x.ff.of_keeps λb o hb hnf=>⟨o,(oth b (nrec b o hb hnf)).trans hb,rfl⟩) hf ((oth e (Ne.symm hTe)).trans he) (λb o hb=>(oth b λq=>by rw[q,hnT]at hb;cases hb).trans (x.st b o hb)) x.new hd (Array.getElem?_eq_some_iff.mp h1).1 hcx λh' y up=>h h' y λb o hb hnf=>up b o ((oth b (nrec b o hb hnf)).trans hb) hnf
theorem CA{oe:Obj}{vs:Array Value}(hfr:A.frames=some (env::outer))(hl:s.heap.FunFrames base (env::outer))(hf:env.frame=some L)(he:s.heap.get? e=some oe)(hkb:base.StaysIn s.heap)(hen:base.get? e=none)(hd:oe.data=.fields vs)(h1:vs[1]?=some .none)(hcx:∃cx,vs[2]?=some cx/\cp cx)
  (h:∀h',kQ cp base (env::outer) e oe.cls oe.dict (rawInt L) h'->s.heap.UpToSlots h'->Q () {s with heap:=h' }):wpAny M A (noteFrame (.ref e) env) Q E s:=by
 unfold noteFrame;simp only[hf];refine wpAny_bind (wpAny_field he hd h1 ?_);rw[if_neg nofun];exact Ao hfr hl hf he hkb hen hd (Array.getElem?_eq_some_iff.mp h1).1 hcx h
theorem kQ.drop{cls fl:Value}{od:Ik}{h:Heap}(x:kQ cp base (env::outer) e cls od fl h):kQ cp base outer e cls od fl h:=⟨x.st,x.new,x.ff.2.2,x.tr⟩
theorem Cg{cls:Value}{od:Ik}(hfr:A.frames=some (env::outer))(hf:env.frame=some L)(x:kQ cp base (env::outer) e cls od .none s.heap)
  (h:∀h',kQ cp base outer e cls od .none h'->s.heap.UpToSlots h'->Q () {s with heap:=h' }):wpAny M A (leaving env (.ref e)) Q E s:=by
 unfold leaving;exact wpAny_bind (DA hfr hf x λh1 y1 u1=>v9 y1 λh2 y2 u2=>h h2 y2.drop (u1.trans u2))
theorem wo{oe:Obj}{vs:Array Value}(hfr:A.frames=some (env::outer))(hl:s.heap.FunFrames base (env::outer))(hf:env.frame=some L)(he:s.heap.get? e=some oe)(hkb:base.StaysIn s.heap)(hen:base.get? e=none)(hd:oe.data=.fields vs)(h1:vs[1]?=some .none)(hcx:∃cx,vs[2]?=some cx/\cp cx)
  (h:∀h',kQ cp base outer e oe.cls oe.dict .none h'->s.heap.UpToSlots h'->Q () {s with heap:=h' }):wpAny M A (leaving env (.ref e)) Q E s:=by
 unfold leaving;exact wpAny_bind (CA hfr hl hf he hkb hen hd h1 hcx λh1 y1 u1=>v9 y1 λh2 y2 u2=>h h2 y2.drop (u1.trans u2))
end
end PySem
namespace L2
open PySem PySem.Spec PyProof.Rows
structure Fly0(P:Ig)(w:Ij)(outer:List Env)(H:Hp)(s:HZ)(B:Heap)(H':Hp)(s':HZ):Prop where
 st:B.StaysIn s'.heap
 ff:s'.heap.FunFrames B outer
 un:Un (lG outer) [] H H' s.heap s'.heap
 hok:jZ P w H' s'.heap
 cov:∀b o,H' b=some o->∃ob,B.get? b=some ob
 old:∀b o,s.heap.get? b=some o->b∉lG outer->∃o',B.get? b=some o'
 os:s'.os=s.os
 bare:AllBare s'.gens
structure Dz(cp:Value->Prop)(P:Ig)(w:Ij)(outer:List Env)(H:Hp)(s:HZ)(B:Heap)(H':Hp)(s':HZ)(ea:Addr)(cls:Value)(od:Ik):Prop extends Fly0 P w outer H s B H' s' where
 fl:kQ cp B outer ea cls od .none s'.heap
noncomputable def DU(cp:Value->Prop)(P:Ig)(w:Ij):j9:=λouter H s E e s'=>∃ea cls od B H',e=.ref ea/\Dz cp P w outer H s B H' s' ea cls od/\H' ea=none/\E cls od H'
noncomputable abbrev b7(P:Ig)(w:Ij):j9:=DU (λv=>v=.none) P w
theorem bf{cp:Value->Prop}{P:Ig}{w:Ij}{X:Cx}:cG (DU cp P w) X (λ_ _ _=>False):=λ_ _ _ _ _ _ _ h=>by
 obtain⟨_,_,_,_,_,_,_,_,f⟩:=h;exact f.elim
theorem xh{P:Ig}{w:Ij}{H:Hp}{B h h':Heap}(ok:jZ P w H h)(cov:∀b o,H b=some o->∃ob,B.get? b=some ob)(k:B.StaysIn h)(k':B.StaysIn h'):jZ P w H h':=λa o e=>
 (ok a o e).stay (λb u hb q=>by
  have hb':∃ob,B.get? b=some ob:=by
   rcases hb with rfl | hb
   ·exact cov _ _ e
   ·exact cov _ _ hb
  obtain⟨ob,hB⟩:=hb';have:=k b ob hB;rw[q]at this;cases this;exact k' b _ hB) (λ_ q=>q) λ_ _ q=>q
theorem bE.there{P:Ig}{w:Ij}{H:Hp}{h:Heap}{a:Addr}{o:HO}(x:bE P w H h a o):∃ob,h.get? a=some ob:=by
 cases o with
 |lst xs=>obtain⟨_,_,_,_,e⟩:=x;exact⟨_,e⟩
 |tup xs=>obtain⟨_,_,_,ob,e,_⟩:=x;exact⟨_,e⟩
 |dK kvs=>obtain⟨_,_,_,_,o,_,_,e,_⟩:=x;exact⟨_,e⟩
 |dT kvs=>obtain⟨_,_,_,_,o,_,_,e,_⟩:=x;exact⟨_,e⟩
 |set S n=>obtain⟨o,_,_,_,e,_⟩:=x;exact⟨_,e⟩
 |ins C dx fs=>obtain⟨_,_,_,e,_⟩:=x;exact⟨_,e⟩
 |own y=>exact x
 |xd fs=>obtain⟨_,⟨_,_,_,e,_⟩,_⟩:=x;exact⟨_,e⟩
 |rng lo hi=>obtain⟨_,_,_,e⟩:=x;exact⟨_,e⟩
 |frz ob u=>obtain⟨e,_⟩:=x;exact⟨_,e⟩
 |tbl ps=>exact⟨_,show h.get? a=some _ from x⟩
 |met f y=>exact⟨_,show h.get? a=some _ from x⟩
 |ext φ=>obtain⟨_,e,_⟩:=x;exact e
section
variable {P:Ig}{w:Ij}{K:HW}{mg:Ic}{base:Heap}{N:Ih}{qual:Str}{scope:Scope}{f:Addr}{cd:Value}{A:Ii}{outer:List Env}{s:HZ}{H:Hp}{E E1:XK}{CX:j9}
theorem Fly0.up{cp:Value->Prop}{X:Cx}{pins:HX}{σ:St}{H1 H':Hp}{s1 s':HZ}{B h':Heap}{ea:Addr}{cls:Value}{od:Ik}(I:Inv X pins σ H1 s1)(hex:X.ex=[])(hst:X.stack=X.env::X.outer)(hfr:X.env.frame=some X.env.locals)(hP:X.prog=P)(hw:X.w=w)
  (x:Fly0 P w X.stack H1 s1 B H' s') (fl2:kQ cp B X.outer ea cls od .none h') (up:s'.heap.UpToSlots h') :
  Dz cp P w X.outer X.H₀ X.s₀ B H' {s' with heap:=h' } ea cls od:=by
 have nex:∀b,b∉X.ex:=λb=>by rw[hex];simp
 have nfr:∀b o,X.s₀.heap.get? b=some o->b∉X.fs->b∉lG X.stack:=λb o e hb hm=>by
  rw[hst]at hm;unfold lG at hm;rw[List.filterMap_cons,hfr]at hm;rcases Hi.mp hm with z | z
  ·exact absurd (Hu e) (by rw[z];exact Nat.not_lt.mpr I.ok.above)
  ·exact hb z
 have sub:∀b,b∈X.fs->b∈lG X.stack:=λb hb=>by
  rw[hst];unfold lG;rw[List.filterMap_cons,hfr];exact Hj _ hb
 have kB:∀b o,X.s₀.heap.get? b=some o->b∉X.fs->∃o',B.get? b=some o':=λb o e hb=>by
  obtain⟨o1,e1⟩:=I.base.there b o e (nex b);exact x.old b o1 e1 (nfr b o e hb)
 have fr0:∀b∈X.fs,X.H₀ b=none:=I.ok.frf;have sl:∀b o,X.s₀.heap.get? b=some o->X.H₀ b=none->b∈X.fs->∃sl,h'.get? b=some {o with slots:=sl}:=λb o e hn hb=>by
  obtain⟨sl1,e1⟩:=I.base.slot b o e hn hb (nex b);have n1:=I.base.free b o e hn (nex b);obtain⟨sl2,e2⟩:=x.un.slot b _ e1 n1 (sub b hb) (by simp);obtain⟨_,o3,e3,nf⟩:=x.ff.mem (sub b hb);rw[e2]at e3;cases e3;obtain⟨sl3,e4⟩:=up b _ e2 nf;exact⟨sl3,e4⟩
 refine⟨⟨fl2.st,fl2.ff,⟨λb o e hn hb _=>?_,λb o e hn hb _=>sl b o e hn hb,λb o e hn _=>?_,λb o e _=>?_,λb xs q=>x.un.tups b xs (I.base.tups b xs q),λb o u q=>x.un.frzs b o u (I.base.frzs b o u q),λb ps q=>?_⟩,xh x.hok x.cov x.st fl2.st,x.cov,kB,x.os.trans I.os,x.bare⟩,fl2⟩
 ·have e1:=I.base.keep b o e hn hb (nex b)
  have n1:=I.base.free b o e hn (nex b);have e2:=x.un.keep b o e1 n1 (nfr b o e hb) (by simp);obtain⟨o',eB⟩:=kB b o e hb;have:=x.st b o' eB;rw[e2]at this;cases this;exact fl2.st b _ eB
 ·obtain⟨o1,e1⟩:=I.base.there b o e (nex b)
  exact x.un.free b o1 e1 (I.base.free b o e hn (nex b)) (by simp)
 ·by_cases hb:b∈X.fs
  ·obtain⟨z,ez⟩:=sl b o e (fr0 b hb) hb
   exact⟨_,ez⟩
  ·obtain⟨o',eB⟩:=kB b o e hb
   exact⟨_,fl2.st b _ eB⟩
 ·obtain⟨m1,e1⟩:=I.base.tbls b ps q
  obtain⟨m2,e2⟩:=x.un.tbls b _ e1;exact⟨m1++m2,by rw[e2,Array.append_assoc]⟩
theorem b_{cp:Value->Prop}(hE:∀c d H',E1 c d H'->E c d H'):cG (DU cp P w) (fJ (DU cp P w) P w K mg base N qual scope f cd A outer s H E) E1:=by
 intro pins σ H1 s1 e s' I x;obtain⟨ea,cls,od,B,H',rfl,fly,hn,q⟩:=x;refine Cg I.ok.frames rfl fly.fl λh' fl2 up=>?_;exact⟨ea,cls,od,B,H',rfl,Fly0.up I rfl rfl rfl rfl rfl fly.toFly0 fl2 up,hn,hE _ _ _ q⟩
def Ad(X:Cx)(E:XK):Prop:=∀(pins:HX) (σ:St) (H:Hp) (s:HZ) (h':Heap) (e:Addr) (cls:Value) (vs:Ia),Inv X pins σ H s->Heap.MadeExcOf s.heap h' e cls vs->E cls none H->X.xe (.ref e) {s with heap:=h' }
theorem i6(hE:∀c d H',E1 c d H'->E c d H'):Ad (fJ (b7 P w) P w K mg base N qual scope f cd A outer s H E) E1:=by
 intro pins σ H1 s1 h1 e cls vs I x q;have hin:∀env∈(fJ (b7 P w) P w K mg base N qual scope f cd A outer s H E).stack,∀b,env.frame=some b->b∈lG (fJ (b7 P w) P w K mg base N qual scope f cd A outer s H E).stack:=λenv he b hb=>List.mem_filterMap.mpr ⟨env,he,hb⟩;obtain⟨t0,he0,ht0,htt⟩:=x.there;have nt:∀b,s1.heap.get? b=none->H1 b=none:=λb hb=>by
  cases z:H1 b with
  |none=>rfl
  |some o=>
   obtain⟨ob,hob⟩:=(I.hok b o z).there;rw[hb]at hob;cases hob
 have hff:=PySem.W.funFrames_hide I.stack hin;have fly0:Fly0 P w (fJ (b7 P w) P w K mg base N qual scope f cd A outer s H E).stack H1 s1 (PySem.W.hideAll s1.heap (lG (fJ (b7 P w) P w K mg base N qual scope f cd A outer s H E).stack)) H1 {s1 with heap:=h1}:=
  ⟨λb o e=>x.keeps b o (PySem.W.of_hideAll _ e),hff.of_keeps λb o e _=>⟨o,x.keeps b o e,rfl⟩,Un.kept x.keeps,I.hok.kept x.keeps,λb o z=>by
   obtain⟨ob,hob⟩:=(I.hok b o z).there;exact⟨ob,PySem.W.hideAll_get _ hob λhm=>by rw[I.stkFree b hm]at z;cases z⟩,λb o e hm=>⟨o,PySem.W.hideAll_get _ e hm⟩,rfl,I.bare⟩
 have newB:(PySem.W.hideAll s1.heap (lG (fJ (b7 P w) P w K mg base N qual scope f cd A outer s H E).stack)).get? e=none:=by
  cases z:(PySem.W.hideAll s1.heap (lG (fJ (b7 P w) P w K mg base N qual scope f cd A outer s H E).stack)).get? e with
  |none=>rfl
  |some o=>have:=PySem.W.of_hideAll _ z;rw[x.new]at this;cases this
 refine wo (cp:=λv=>v=.none) (s:={s1 with heap:=h1}) I.ok.frames fly0.ff rfl he0 fly0.st newB rfl rfl ⟨_,rfl,rfl⟩ λh' fl2 up=>?_;exact⟨e,cls,none,_,H1,rfl,Fly0.up I rfl rfl rfl rfl rfl fly0 fl2 up,nt e x.new,hE _ _ _ q⟩
end
structure xa(K:HW)(C:Addr)(bmB:Ia)(newId:String):Prop where
 exc:PySem.W.excIn K C bmB newId=true
theorem xa.obj{K:HW}{C:Addr}{bmB:Ia}{newId:String}{h:Heap}(c:xa K C bmB newId)(X:K.In h):∃bm N nm q bs hdct sn sub ab col dd k0 k1 k2 k3 k5 mN,
  h.get? C=some (excClassObj nm q C N bs bm hdct sn sub ab col dd k0 k1 k2 k3 k5 newId)/\h.Ns N mN/\mN "__init__"=none/\OwnTail h bmB bm/\∃dd' cd sl,K.lookup C=some ⟨.type "type",dd',.cls cd,sl⟩/\cd.mro=.ref C::bm:=by
 have q:=c.exc;unfold PySem.W.excIn at q;cases hl:K.lookup C with
 |none=>rw[hl]at q;cases q
 |some ob=>
  rw[hl]at q
  split at q
  ·rename_i dd cd sl e
   cases e
   split at q
   ·rename_i C' bm k0 k1 k2 k3 n k5 hm hs
    simp only[Bool.and_eq_true,beq_iff_eq,Bool.not_eq_true']at q;obtain⟨⟨⟨⟨⟨rfl,rfl⟩,hdel⟩,ht⟩,hok⟩,hni⟩:=q;have ho:=X _ _ hl;have hsl:sl=#[k0,k1,k2,k3,some (.builtin n),k5]:=Array.toList_inj.mp hs;subst hsl;obtain⟨nm,bs,mro,ns,qn,hd,sn,sub,ab,col,del⟩:=cd;dsimp only at hm hdel hok hni ho;subst hm hdel;exact⟨bm,ns,nm,qn,bs,hd,sn,sub,ab,col,dd,k0,k1,k2,k3,k5,_,ho,.of_isNs (PySem.W.isNs_of_in X hok),PySem.W.nsMap_none_of_in X hok hni,PySem.W.tail_of_in X ht,dd,_,_,rfl,rfl⟩
   ·cases q
  ·cases q
section
variable {X:Cx}{x:Str}{np cpos pos:Pos}{e₀:Expr}{bS:Il}{t:TA}{C:Addr}{B Bn newId nid initId inN:String}{bm bmN:Ia}{E:XK}
noncomputable def sr(C:Addr)(E:XK)(t:TA):TS:=λ_ σ H=>t σ H λvs H1=>vs.length<=sizeLine/\E (.ref C) none H1
theorem zS(c:xa X.K C bm newId)(Fn:ExcBaseFacts Bn newId inN bmN)(hBn:bm.contains (.type Bn)=true)(FB:ExcBaseFacts B nid initId bm)(hc:X.calm=true)(hg:Gl X x)(hm:X.mg x=some (.ref C))(hx:Ad X E)(ha:PA X (e₀::bS) t)
  (hd:autoParam ((x==("__debug__":Str))=false) zz2._auto_1)
  (he:autoParam (starEach (e₀::bS) X.env=(false,eval e₀ X.env)::starEach bS X.env) zz0._auto_1) (hpl:autoParam ((backTo cpos (starEach bS X.env)).any (·.1)=false) zz0._auto_1) :
  PS X (.Raise (some (.Call (.Name x np) (e₀::bS) [] cpos)) none pos) (sr C E t):=by
 intro pins s σ H D I h;obtain⟨tl,N,nm,q,bs,hdct,sn,sub,ab,col,dd,k0,k1,k2,k3,k5,mN,hC,hN,hni,T,_⟩:=c.obj I.mod.kin;refine wpAny_Raise_call_subU (C:=C) (nm:=nm) (q:=q) (N:=N) (bs:=bs) (bm:=tl) (hdct:=hdct) (sn:=sn) (sub:=sub) (ab:=ab) (col:=col) (dd:=dd) (k0:=k0) (k1:=k1) (k2:=k2) (k3:=k3) (k5:=k5)
  Fn hBn FB (mN:=mN) (T.hasType FB.hasBase) (I.ok.hd hc) (by rw[he];show(false||(backTo cpos (starEach bS X.env)).any (·.1))=false;rw[hpl];rfl) hni (jw I hg hm ⟨rfl,?_⟩ hd)
 rw[he];have ha':=ha cpos pins s σ H _ I h;rw[he]at ha';exact Calls.evalArgs_plain (wpAny_mono ha' (λus s₂ ⟨vs,H1,I1,r1,z,q1⟩=>⟨rfl,by rw[<- r1.length];exact z,I1.bk _ _ hC,hN.keeps I1.bk,T.keeps I1.bk,λh' e hx'=>hx pins σ H1 s₂ h' e _ _ I1 hx' q1⟩) λ_ _ y=>y)
end
noncomputable abbrev TX:=St->Hp->VK->XK->Prop
section
variable {X:Cx}{CX:j9}{k:Nat}{ps:Ih}{sp:Sp}{x:Str}{p pos:Pos}{e:Expr}{es:Il}{t:TA}
end
end L2
namespace PySem
open Sem (wp)
section
variable {M:Model}{A:Ii}{E:HV}
variable {nm q nm' q':Str}{C N D N':Addr}{bs bm bs' bm':Ia}{hdct hdct':Bool}{sn sn':Ih}{sub sub':Ia}{ab ab':Bool}{col col':Option Bool}{dd dd':Ik}{k0 k1 k2 k3 k5 k0' k1' k2' k3' k5':Option Value}{newId newId':String}
end
end PySem
namespace L2
open PySem PySem.Spec PyProof.Rows
section
variable {X:Cx}{pins:HX}{σ:St}{H:Hp}{s:HZ}
end
section
variable {X:Cx}{P:Ig}{w:Ij}{e tg:Expr}{tx:TX}{g:TG}{i:Nat}{n x:Str}{D:Addr}{bmD:Ia}{nD:String}{b₀:Stmt}{suite:List Stmt}{apos pos hpos np:Pos}{ts:Addr->TS}
end
section
variable {X:Cx}{pins:HX}{σ:St}{H:Hp}{s:HZ}
theorem Inv.moved{ch:Ib}{h':Heap}{tk:Nat}(I:Inv X pins σ H s)(hf:∀b∈ch,mI X pins H b)(k:∀b o,b∉ch->s.heap.get? b=some o->h'.get? b=some o):Inv X pins σ H {s with heap:=h',toks:=tk}:=by
 have nH:∀b o,H b=some o->b∉ch:=λb o e z=>by rw[(hf b z).1]at e;cases e
 refine I.call' (s':={s with heap:=h',toks:=tk}) (ch:=ch) rfl ⟨λb o e _ _ hc=>k b o hc e,λb o e _ _ hc=>⟨o.slots,k b o hc e⟩,λb o e n hc=>n,λb o e hc=>⟨o,k b o hc e⟩,λb xs q=>q,λb o y q=>q,λb qs q=>⟨#[],by rw[q];simp⟩⟩
  (λb o e=>(I.hok b o e).stay (λc u hc q=>k c u (by
   rcases hc with rfl | hc
   ·exact nH _ _ e
   ·exact nH _ _ hc) q) (λ_ q=>q) λ_ _ q=>q) I.bare λb hb=>?_
 obtain⟨f0,f1,f2,f3,f4,f5⟩:=hf b hb;exact⟨f3,f1,f4,f5⟩
theorem Inv.movedT{ch:Ib}{h':Heap}{tk:Nat}{T:Addr}{ob:HO}(I:Inv X pins σ H s)(hf:∀b∈ch,mI X pins H b)(k:∀b o,b∉ch->s.heap.get? b=some o->h'.get? b=some o)(hT:s.heap.objs.size<=T)(new:bE X.prog X.w (au H T ob) h' T ob) :
  Inv X pins σ (au H T ob) {s with heap:=h',toks:=tk}:=by
 have nH:∀b o,H b=some o->b∉ch:=λb o e z=>by rw[(hf b z).1]at e;cases e
 have hn:H T=none:=I.hok.fresh hT;have nT:∀b o,s.heap.get? b=some o->b≠T:=λb o e z=>by rw[z]at e;exact absurd (Hu e) (Nat.not_lt.mpr hT)
 refine I.call' (s':={s with heap:=h',toks:=tk}) (ch:=ch) rfl ⟨λb o e _ _ hc=>k b o hc e,λb o e _ _ hc=>⟨o.slots,k b o hc e⟩,λb o e n hc=>by rw[ao (nT b o e)];exact n,λb o e hc=>⟨o,k b o hc e⟩,λb xs q=>by rw[ao (aA q hn)];exact q,λb o y q=>by rw[ao (aA q hn)];exact q,λb qs q=>⟨#[],by rw[ao (aA q hn),q];simp⟩⟩
  (λb o e=>?_) I.bare λb hb=>?_
 ·by_cases hb:b=T
  ·subst hb
   rw[ac]at e;cases e;exact new
  ·rw[ao hb]at e
   exact(I.hok b o e).stay (λc u hc q=>k c u (by
    rcases hc with rfl | hc
    ·exact nH _ _ e
    ·exact nH _ _ hc) q) (λc q=>by rw[ao (aA q hn)];exact q) λc xs q=>by rw[ao (aA q hn)];exact q
 ·obtain⟨f0,f1,f2,f3,f4,f5⟩:=hf b hb
  exact⟨f3,f1,f4,f5⟩
end
noncomputable def DR(K:HW)(a b:Addr):It:=
 ⟨λi H=>∃xs ys x y,aN K H a xs/\aN K H b ys/\xs[i]?=some x/\ys[i]?=some y,λi H v H'=>∃T x y,v=.ref T/\H T=none/\H'=au H T (.tup [x,y])/\(∀xs,aN K H a xs->xs[i]?=some x)/\∀ys,aN K H b ys->ys[i]?=some y,
  λi H=>∃xs ys,aN K H a xs/\aN K H b ys/\(xs.length<=i\/ys.length<=i)⟩
theorem zH{P:Ig}{w:Ij}{K:HW}{elts:Il}{x1:Nat}{tp:Pos}{z TI TO i1 i2 l1 l2:Addr}(D:ZipApart z TI TO i1 i2 l1 l2) :
  so P w K (.Tuple elts x1 tp) (DR K l1 l2) [z,TI,TO,i1,i2] z (λi h=>IsZip h z TI TO .none/\IsPair h TI (.ref i1) (.ref i2)/\(∃a b,IsPair h TO a b)/\h.IsListIter i1 l1 i/\h.IsListIter i2 l2 i) where
 mem:=by simp
 obj:=λi h st b hb=>by
  obtain⟨hz,hTI,⟨a,c,hTO⟩,⟨o1,e1,c1,d1⟩,⟨o2,e2,c2,d2⟩⟩:=st;simp only[Hi,List.not_mem_nil,or_false]at hb;rcases hb with rfl | rfl | rfl | rfl | rfl
  ·exact⟨_,hz,λv q=>by cases q⟩
  ·exact⟨_,hTI,λv q=>by cases q⟩
  ·exact⟨_,hTO,λv q=>by cases q⟩
  ·exact⟨_,e1,λv q=>by rw[d1]at q;cases q⟩
  ·exact⟨_,e2,λv q=>by rw[d2]at q;cases q⟩
 keep:=λi h h' st hk=>by
  obtain⟨hz,hTI,⟨a,b,hTO⟩,h1,h2⟩:=st;exact⟨hk z (by simp) _ hz,hk TI (by simp) _ hTI,⟨a,b,hk TO (by simp) _ hTO⟩,h1.at λo e=>hk i1 (by simp) o e,h2.at λo e=>hk i2 (by simp) o e⟩
 item:=by
  intro X hP hw hK hc i pins s σ H E I hf st hg;subst hP hw hK;obtain⟨xs,ys,x,y,hq1,hq2,hx,hy⟩:=hg;obtain⟨its1,rv1,p1,hz1⟩:=I.list hq1;obtain⟨its2,rv2,p2,hz2⟩:=I.list hq2;obtain⟨u1,hu1,ru1⟩:=rv1.get hx;obtain⟨u2,hu2,ru2⟩:=rv2.get hy;obtain⟨hz,hTI,⟨a,b,hTO⟩,h1,h2⟩:=st;refine wpAny_pyNext_zip_item D hz hTI hTO h1 h2 p1.isList p2.isList (x:=u1) (y:=u2) (by simpa using hu1) (by simpa using hu2) λh' a1 a2 a3 a4 a5 a6 hk=>?_;refine⟨_,rfl,wpAny_letOwnedTupleGo_zip a1 λh2' hz' hs'=>?_⟩;have hfree:H s.heap.objs.size=none:=I.hok.fresh (Hr _);have lt:∀{c o},s.heap.get? c=some o->s.heap.objs.size≠c:=λe=>Nat.ne_of_gt (Hu e);have kk:∀c o,c∉[z,TI,TO,i1,i2]->s.heap.get? c=some o->h2'.get? c=some o:=λc o hc e=>
   hs'.extBut _ _ (λq=>hc (by simp[q])) (hk c o (λq=>hc (by simp[q])) (λq=>hc (by simp[q])) (λq=>hc (by simp[q])) (λq=>hc (by simp[q])) e)
  have hT:h2'.get? s.heap.objs.size=some {cls:=.type "tuple",data:=.seq #[u1,u2]}:=hs'.extBut _ _ (lt hz) a5;refine⟨.ref s.heap.objs.size,au H s.heap.objs.size (.tup [x,y]),I.movedT (tk:=s.toks) hf kk (Hr _) ⟨show 2<=sizeLine from by decide +kernel,[u1,u2],.cons ru1 (.cons ru2 .nil),_,hT,rfl,_,rfl⟩,rfl,
   ⟨_,x,y,rfl,hfree,rfl,λzs hzs=>by rw[I.list_inj hzs hq1];exact hx,λzs hzs=>by rw[I.list_inj hzs hq2];exact hy⟩,
   ⟨hz',hs'.extBut _ _ D.TIz (hk _ _ D.TIz D.TITO D.TIi1 D.TIi2 hTI),⟨_,_,hs'.extBut _ _ D.TOz a2⟩,a3.extBut hs'.extBut D.i1z,a4.extBut hs'.extBut D.i2z⟩,λb hb=>?_⟩
  have hlt:b≠s.heap.objs.size:=by
   obtain⟨o1,e1,_⟩:=h1;obtain⟨o2,e2,_⟩:=h2;simp only[Hi,List.not_mem_nil,or_false]at hb;rcases hb with rfl | rfl | rfl | rfl | rfl
   ·exact(lt hz).symm
   ·exact(lt hTI).symm
   ·exact(lt hTO).symm
   ·exact(lt e1).symm
   ·exact(lt e2).symm
  rw[ao hlt];exact(hf b hb).1
 done:=by
  intro X hP hw hK hc i pins s σ H E I hf st hg;subst hP hw hK;obtain⟨xs,ys,hq1,hq2,hx⟩:=hg;obtain⟨its1,rv1,p1,hz1⟩:=I.list hq1;obtain⟨its2,rv2,p2,hz2⟩:=I.list hq2;obtain⟨hz,hTI,⟨a,b,hTO⟩,h1,h2⟩:=st;have l1':=rv1.length;have l2':=rv2.length;refine wpAny_pyNext_zip_end (I.ok.hd hc) D hz hTI hTO h1 h2 p1.isList p2.isList ?_ λh' hk=>⟨rfl,I.moved (tk:=s.toks) hf λc o hc e=>hk c o (λq=>hc (by simp[q])) (λq=>hc (by simp[q])) (λq=>hc (by simp[q])) (λq=>hc (by simp[q])) e⟩;rcases hx with hx | hx
  ·exact .inl (by simp;omega)
  ·exact .inr (by simp;omega)
 self:=λ_ _ _ _ _ st h=>wpAny_pyIter_zip st.1 h
theorem w9(n l1 l2:Nat)(h1:l1<n)(h2:l2<n):ZipApart (n+4) (n+2) (n+3) n (n+1) l1 l2:=by
 constructor<;>exact λe=>absurd (show(_:Nat)=_ from e) ⋯
section
variable {X:Cx}{elts:Il}{x1:Nat}{tp:Pos}
noncomputable def B8(K:HW)(ta:TA):TI:=λσ H R=>ta σ H λvs H1=>∃a b xs ys,vs=[.ref a,.ref b]/\aN K H1 a xs/\aN K H1 b ys/\R (DR K a b) H1
theorem Cm{a b:Expr}{ta:TA}{p pos:Pos}(hg:Gl X "zip")(hm:X.mg "zip"=none)(ha:PA X [a,b] ta)(hs:autoParam (starEach [a,b] X.env=[(false,eval a X.env),(false,eval b X.env)]) zz0._auto_1)(hs2:autoParam (starEach [b] X.env=[(false,eval b X.env)]) zz0._auto_1):PI X (.Tuple elts x1 tp) (.Call (.Name "zip" p) [a,b] [] pos) (B8 X.K ta):=by
 intro pins s σ H R I h;refine Call_ (dL I hg hm boot_zip (PyProof.Rows.callWith_type1 (bK (ha pos pins s σ H _ I h) λus s1 ⟨vs,H1,I1,r1,q1⟩=>?_) (by rw[hs,hs2]) (by rw[hs2];rfl)));obtain⟨l1,l2,xs,ys,rfl,hq1,hq2,q⟩:=q1;obtain⟨u,v,rfl,ru,rv⟩:=r1.two;cases ru;cases rv;obtain⟨its1,rv1,p1,_⟩:=I1.list hq1;obtain⟨its2,rv2,p2,_⟩:=I1.list hq2;refine call_zip_2 p1.isList p2.isList λh' z1 z2 z3 z4 z5 z6 hk=>?_;have lt1:l1<s1.heap.objs.size:=by obtain⟨_,e,_⟩:=p1.isList;exact Hu e
 have lt2:l2<s1.heap.objs.size:=by obtain⟨_,e,_⟩:=p2.isList;exact Hu e
 have I2:Inv X pins σ H1 {s1 with heap:=h' }:=I1.kept (t':=s1.toks) hk;refine wpAny_pyIter_zip z1 ?_;refine⟨s1.heap.objs.size+4,[s1.heap.objs.size+4,s1.heap.objs.size+2,s1.heap.objs.size+3,s1.heap.objs.size,s1.heap.objs.size+1],_,_,H1,rfl,I2,zH (l1:=l1) (l2:=l2) ?_,⟨z1,z2,⟨_,_,z3⟩,z4,z5⟩,λb hb=>?_,q⟩
 ·exact w9 _ _ _ lt1 lt2
 ·have hb':s1.heap.objs.size<=b:=by
   simp only[Hi,List.not_mem_nil,or_false]at hb;rcases hb with e | e | e | e | e<;>(rw[e];first | exact Hr _ | exact Nat.le_add_right _ _)
  exact I1.fpOk hb' (I1.hok.fresh hb')
end
end L2
namespace PySem.W
open PySem PySem.Spec PySem.Calls PyProof.Rows
section
variable {prog:Ig}{w:Ij}{A:Ii}{E:HV}{s:HZ}{K:Frag}{x D:Addr}{ox:Obj}{odo:Option Obj}{name:Str}
structure XTy(K:Frag)(D:Addr):Prop where
 ga:findIn K (.ref D) "__getattribute__"=some (some (.builtin "BaseException.__getattribute__"))
 gh:findIn K (.ref D) "__getattr__"=some none
 mb:mroIn K D (.type "BaseException")=some true
 mo:mroIn K D (.type "object")=some true
 ha:findIn K (.ref D) "__class__"=some (some (.builtin "object.__class__"))
 hn:specialIn K (.builtin "object.__class__") "__get__"=some (some (.builtin "getset_descriptor.__get__"))
 tk:takesIn K (.builtin "object.__class__")=some true
 cl:∃dd cd sl,K.lookup D=some ⟨.type "type",dd,.cls cd,sl⟩
end
end PySem.W
namespace L2
open PySem PySem.Spec PyProof.Rows
section
variable {X:Cx}
end
structure XR(K:HW)(C:Addr):Prop where
 ex:∃(bm bmN:Ia) (newId Bn inN B nid initId:String),xa K C bm newId/\ExcBaseFacts Bn newId inN bmN/\bm.contains (.type Bn)=true/\ExcBaseFacts B nid initId bm
theorem gK{X:Cx}{x:Str}{np cpos pos:Pos}{e₀:Expr}{bS:Il}{t:TA}{C:Addr}{E:XK}(c:XR X.K C)(hc:X.calm=true)(hg:Gl X x)(hm:X.mg x=some (.ref C))(hx:Ad X E)(ha:PA X (e₀::bS) t)
  (hd:autoParam ((x==("__debug__":Str))=false) zz2._auto_1)
  (he:autoParam (starEach (e₀::bS) X.env=(false,eval e₀ X.env)::starEach bS X.env) zz0._auto_1) (hpl:autoParam ((backTo cpos (starEach bS X.env)).any (·.1)=false) zz0._auto_1) :
  PS X (.Raise (some (.Call (.Name x np) (e₀::bS) [] cpos)) none pos) (sr C E t):=by
 obtain⟨bm,bmN,newId,Bn,inN,B,nid,initId,c1,c2,c3,c4⟩:=c.ex;exact zS c1 c2 c3 c4 hc hg hm hx ha hd he hpl
section
variable {P:Ig}{w:Ij}{K:HW}{mg:Ic}{base:Heap}
theorem cY.okX{x qual:Str}{st:Stmt}{f:Addr}{fd:Ie}{N ps:Ih}{k:Nat}{sp:Sp}(F:cY K x qual st f fd)(S:ay N ps (ak st))(len:∀vs H Q E,sp vs H Q E->vs.length=ps.length)
  (hbody:∀(cdv:Value) (A:Ii) (outer:List Env) (s:HZ) (H:Hp) (vs:List V) (Q:VK) (E:XK),cF k (A.deeper (envOfC qual (ak st) s.heap.objs.size f cdv))->sp vs H Q E ->
   ∃t,ut (fJ (b7 P w) P w K mg base N qual (ak st) f cdv A outer s H E) (aP st) t/\t {nx:=λ_ H'=>Q .non H',rt:=Q} (start N vs) H):aZ P w K mg base (b7 P w) (k+1) f fd ps sp:=by
 obtain⟨oc,od,kV,doc,pm,an,cdv,ct,osl,rfl,lk,hcd⟩:=F.ex;exact B4 lk hcd S len λA outer s H vs Q E hr hsp=>hbody cdv A outer s H vs Q E hr hsp
theorem aZ.lift{CX:j9}{k:Nat}{f:Addr}{fd:Ie}{ps:Ih}{sp:Sp}(F:aZ P w K mg base bF k f fd ps sp):aZ P w K mg base CX k f fd ps sp:=
 ⟨F.len,λA outer s H args us vs Q E hr he hb hv hs=>codeAny_mono (F.run A outer s H args us vs Q E hr he hb hv hs) λr s' hq=>by
  cases r with
  |error e=>exact False.elim hq
  |ok fl=>cases fl<;>exact hq⟩
theorem fF.lift{CX:j9}{k:Nat}{x:Str}{ps:Ih}{sp:Sp}(c:fF P w K mg base bF k x ps sp):fF P w K mg base CX k x ps sp:=by
 obtain⟨f,fd,F,r⟩:=c.ex;exact⟨f,fd,F.lift,r⟩
end
theorem qD{X:Cx}{K:HW}{es:Il}{k:Nat}{t:BZ}{n:Nat}{pos:Pos}(hK:X.K=K)(hc:X.calm=true)(h:Dy X es t)
  (hn:autoParam ((assignEach es X.env).length=n) zz0._auto_1) (hst:autoParam ((assignEach es X.env).findIdx? (·.1)=none) zz0._auto_1):PG X (.Tuple es k pos) (wV K n t):=hK▸gI hc h hn hst
section
variable {K:HW}{g:TG}{ti:TT}{te:TE}{σ:St}{H:Hp}{Q:List V->Hp->Prop}
theorem zm{a b:Addr}{xs ys:List V}{n:Nat}(hn:n=min xs.length ys.length)(Pv:Nat->List V->St->Hp->Prop)(h0:Pv 0 [] σ H)(hz:∀i acc σ H,Pv i acc σ H->acc.length<sizeLine)(hi:∀i acc σ H,Pv i acc σ H->i<=n)
  (hl:∀i acc σ H,Pv i acc σ H->aN K H a xs/\aN K H b ys)
  (hs:∀i x y acc σ H T,xs[i]?=some x->ys[i]?=some y->Pv i acc σ H->H T=none->g (.ref T) σ (au H T (.tup [x,y])) λσ2 H3=>ti σ2 H3 λb H4=>if b=true then te σ2 H4 λv H5=>Pv (i+1) (acc++[v]) σ2 H5 else Pv (i+1) acc σ2 H4)
  (he:∀acc σ H,Pv n acc σ H->Q acc H):gZ (DR K a b) g ti te σ H Q:=by
 refine jH (J:=DR K a b) (g:=g) (ti:=ti) (te:=te) (Q:=Q) (n:=n) Pv h0 hz hi (λacc σ H w=>⟨xs,ys,(hl _ _ _ _ w).1,(hl _ _ _ _ w).2,⋯⟩)
  (λi acc σ H hlt w=>⟨xs,ys,xs[i]'⋯,ys[i]'⋯,(hl _ _ _ _ w).1,(hl _ _ _ _ w).2,G4 ⋯,G4 ⋯⟩) (λi x acc σ H H2 hlt w y=>?_) he
 obtain⟨T,x,y,rfl,hT,rfl,hx,hy⟩:=y;exact hs i x y acc σ H T (hx xs (hl _ _ _ _ w).1) (hy ys (hl _ _ _ _ w).2) w hT
end
end L2
namespace QL
open PySem
end QL
namespace L2
open PySem PySem.Spec PyProof.Rows
noncomputable def DG(K:HW)(a:Addr):It:=
 ⟨λi H=>∃xs x,aN K H a xs/\xs[i]?=some x,λi H v H'=>∃T x,v=.ref T/\H T=none/\H'=au H T (.tup [.int (i:Int),x])/\∀xs,aN K H a xs->xs[i]?=some x,λi H=>∃xs,aN K H a xs/\xs.length<=i⟩
theorem xS{P:Ig}{w:Ij}{K:HW}{elts:Il}{x1:Nat}{tp:Pos}{e it l:Addr}(hei:e≠it) :
  so P w K (.Tuple elts x1 tp) (DG K l) [e,it] e (λi h=>(∃old,IsEnum h e it i old)/\h.IsListIter it l i) where
 mem:=by simp
 obj:=λi h st b hb=>by
  obtain⟨⟨old,he⟩,⟨o1,e1,c1,d1⟩⟩:=st;simp only[Hi,List.not_mem_nil,or_false]at hb;rcases hb with rfl | rfl
  ·exact⟨_,he,λv q=>by cases q⟩
  ·exact⟨_,e1,λv q=>by rw[d1]at q;cases q⟩
 keep:=λi h h' st hk=>by
  obtain⟨⟨old,he⟩,h1⟩:=st;exact⟨⟨old,hk e (by simp) _ he⟩,h1.at λo e'=>hk it (by simp) o e'⟩
 item:=by
  intro X hP hw hK hc i pins s σ H E I hf st hg;subst hP hw hK;obtain⟨xs,x,hq,hx⟩:=hg;obtain⟨its,rv,p,hz⟩:=I.list hq;obtain⟨u,hu,ru⟩:=rv.get hx;obtain⟨⟨old,he⟩,h1⟩:=st;obtain⟨o1,e1,_⟩:=id h1;refine wpAny_pyNext_enum_item he h1 p.isList (x:=u) (by simpa using hu) hei λh' a1 a2 a3 a4 hk=>?_;refine⟨_,rfl,wpAny_letOwnedTupleGo_enum a1 λh2 he2 hs2=>?_⟩;have hfree:H s.heap.objs.size=none:=I.hok.fresh (Hr _);have lt:∀{c o},s.heap.get? c=some o->s.heap.objs.size≠c:=λe=>Nat.ne_of_gt (Hu e);have kk:∀c o,c∉[e,it]->s.heap.get? c=some o->h2.get? c=some o:=λc o hc q=>
   hs2.extBut _ _ (λz=>hc (by simp[z])) (hk c o (λz=>hc (by simp[z])) (λz=>hc (by simp[z])) q)
  have hT:h2.get? s.heap.objs.size=some {cls:=.type "tuple",data:=.seq #[.int i s.toks,u]}:=hs2.extBut _ _ (lt he) a3;refine⟨.ref s.heap.objs.size,au H s.heap.objs.size (.tup [.int i,x]),I.movedT (tk:=s.toks+1) hf kk (Hr _) ⟨show 2<=sizeLine from by decide +kernel,[.int i s.toks,u],.cons ⟨_,rfl⟩ (.cons ru .nil),_,hT,rfl,_,rfl⟩,rfl,
   ⟨_,x,rfl,hfree,rfl,λzs hzs=>by rw[I.list_inj hzs hq];exact hx⟩,⟨⟨u,by simpa using he2⟩,a2.extBut hs2.extBut (Ne.symm hei)⟩,λb hb=>?_⟩
  have hlt:b≠s.heap.objs.size:=by
   simp only[Hi,List.not_mem_nil,or_false]at hb;rcases hb with rfl | rfl
   ·exact(lt he).symm
   ·exact(lt e1).symm
  rw[ao hlt];exact(hf b hb).1
 done:=by
  intro X hP hw hK hc i pins s σ H E I hf st hg;subst hP hw hK;obtain⟨xs,hq,hx⟩:=hg;obtain⟨its,rv,p,hz⟩:=I.list hq;obtain⟨⟨old,he⟩,h1⟩:=st;have l1':=rv.length;refine wpAny_pyNext_enum_end (I.ok.hd hc) he h1 p.isList (by simp;omega) λh' hk=>⟨rfl,I.moved (tk:=s.toks) hf λc o hc e=>hk c o (λq=>hc (by simp[q])) e⟩
 self:=λ_ _ _ _ _ st h=>let ⟨⟨_,he⟩,_⟩:=st;wpAny_pyIter_enum he h
section
variable {X:Cx}{elts:Il}{x1:Nat}{tp:Pos}
noncomputable def yG(K:HW)(ta:TA):TI:=λσ H R=>ta σ H λvs H1=>∃a xs,vs=[.ref a]/\aN K H1 a xs/\R (DG K a) H1
theorem rg{a:Expr}{ta:TA}{p pos:Pos}(hg:Gl X "enumerate")(hm:X.mg "enumerate"=none)(ha:PA X [a] ta)(hs:autoParam (starEach [a] X.env=[(false,eval a X.env)]) zz0._auto_1):PI X (.Tuple elts x1 tp) (.Call (.Name "enumerate" p) [a] [] pos) (yG X.K ta):=by
 intro pins s σ H R I h;refine Call_ (dL I hg hm boot_enumerate (PyProof.Rows.callWith_type1 (bK (ha pos pins s σ H _ I h) λus s1 ⟨vs,H1,I1,r1,q1⟩=>?_) (by rw[hs];rfl) (by rfl)));obtain⟨l,xs,rfl,hq,q⟩:=q1;obtain⟨u,rfl,ru⟩:=r1.one;cases ru;obtain⟨its,rv,p1,_⟩:=I1.list hq;refine call_enumerate_list p1.isList λh' z1 z2 z3 hk=>?_;have I2:Inv X pins σ H1 {s1 with heap:=h' }:=I1.kept (t':=s1.toks) hk;refine wpAny_pyIter_enum z1 ?_;refine⟨s1.heap.objs.size+1,[s1.heap.objs.size+1,s1.heap.objs.size],_,_,H1,rfl,I2,xS (l:=l) (Nat.ne_of_gt (HA _)),⟨⟨_,z1⟩,z2⟩,λb hb=>?_,q⟩;have hb':s1.heap.objs.size<=b:=by
  simp only[Hi,List.not_mem_nil,or_false]at hb;rcases hb with e | e<;>(rw[e];first | exact Hr _ | exact Nat.le_add_right _ _)
 exact I1.fpOk hb' (I1.hok.fresh hb')
end
section
variable {K:HW}{g:TG}{tb:TS}{D:iJ}{σ:St}{H:Hp}
theorem pO{a:Addr}{xs:List V}(Pv:Nat->St->Hp->Prop)(h0:Pv 0 σ H)(hl:∀i σ H,i<=xs.length->Pv i σ H->aN K H a xs)
  (hs:∀(i:Nat) x σ H T,xs[i]?=some x->Pv i σ H->H T=none->g (.ref T) σ (au H T (.tup [.int (i:Int),x])) λσ2 H2=>tb {D with nx:=Pv (i+1),ct:=Pv (i+1),bk:=D.nx} σ2 H2) (hd:∀σ H,Pv xs.length σ H->D.nx σ H):yN (DG K a) g tb D σ H:=by
 refine⟨λi m σ H=>m=xs.length-i/\i<=xs.length/\Pv i σ H,⟨xs.length,by simp,Hs _,h0⟩,?_⟩;rintro i m σ H ⟨rfl,hi,p⟩;have q:=hl i σ H hi p
 by_cases hlt:i<xs.length
 ·refine .inr ⟨⟨xs,xs[i],q,by simp[hlt]⟩,Pv (i+1),λσ' H' p'=>⟨xs.length-(i+1),⋯,rfl,hlt,p'⟩,λx H' y=>?_⟩
  obtain⟨T,x,rfl,hT,rfl,y⟩:=y;exact hs i x σ _ T (y xs q) p hT
 ·have e:i=xs.length:=by omega
  subst e;exact .inl ⟨⟨xs,q,Hr _⟩,hd σ H p⟩
end
end L2
namespace PySem
open Sem (wp)
section
variable {M:Model}{A:Ii}{E:HV}{env:Env}
variable {nm q:Str}{C N:Addr}{bs bm:Ia}{hdct:Bool}{sn:Ih}{sub:Ia}{ab:Bool}{col:Option Bool}{dd:Ik}{k0 k1 k2 k3 k5:Option Value}{newId:String}
theorem o4{s:HZ}{x:Sem Value}{Q:Flow->Shared->Prop}(hbase:bm.contains (.type "BaseException")=true)(hh:A.handled=none)
  (h:wpAny M A x (λv s₁=>∃e oe vs,v=.ref e/\s₁.heap.get? C=some (excClassObj nm q C N bs bm hdct sn sub ab col dd k0 k1 k2 k3 k5 newId)/\s₁.heap.get? e=some oe/\oe.cls=.ref C/\oe.data=.fields vs/\vs[1]?=some .none/\E (.ref e) s₁) E s) :
  wpAny M A (raiseStmt env (some x) none) Q E s:=by
 have hcB:(Value.ref C::bm).contains (.type "BaseException")=true:=by rw[List.contains_cons,hbase,Bool.or_true]
 unfold raiseStmt;refine wpAny_bind (wpAny_mono h (λv s₁ h₁=>?_) λ_ _ x=>x);obtain⟨e,⟨oc,od,dt,sl⟩,vs,rfl,hC,he,hc,hd,hv,hE⟩:=h₁;dsimp only at hc hd;subst hc hd;obtain⟨hp,g,d,tk,os⟩:=s₁
 repeat (first | with_reducible refine wpAny_loadPart_at he ?_ | with_reducible refine wpAny_loadPart_at hC ?_ | (with_reducible refine wpAny_isSubtype_exc hC ?_;rw[hcB]) | wp_step)
 rw[hv];refine wpAny_pure ?_;rw[if_neg nofun];exact wpAny_pure (wpAny_raiseNew_none hh hE)
end
section
variable {prog:Ig}{w:Ij}{A:Ii}{E:HV}{h:Heap}{g:Array GenState}{d:Drawn}{t:Nat}{os:OsState}
variable {nm q:Str}{C N:Addr}{bs bm bmB:Ia}{hdct:Bool}{sn:Ih}{sub:Ia}{ab:Bool}{col:Option Bool}{dd:Ik}{k0 k1 k2 k3 k5:Option Value}{B Bn newId nid initId inN:String}{bmN:Ia}{K:HW}
theorem j3(Fn:ExcBaseFacts Bn newId inN bmN)(hBn:bmB.contains (.type Bn)=true)(F:ExcBaseFacts B nid initId bmB)(T:OwnTail h bmB bm)(X:K.In h){bS:Ia}{fI:Addr}{Q:Fin->Shared->Prop}
  (hC:h.get? C=some (excClassObj nm q C N bs bm hdct sn sub ab col dd k0 k1 k2 k3 k5 newId)) (hi:PySem.W.findIn K (.ref C) "__init__"=some (some (.ref fI))) (hf:PySem.W.typeIn K (.ref fI)=some (.type "function"))
  (hq:∀h' e,Heap.MadeExcOf h h' e (.ref C) bS ->
   wpAny (model prog w) A (call (.ref fI) (.ref e::bS)) (λr s'=>r=.none/\Q (.done (.ret (.ref e))) s') E ⟨h',g,d,t,os⟩) (hrest:bS.length<=sizeLine) :
  wpAny (model prog w) A (Builtin.«type.__call__» ⟨.ref C::bS,[]⟩) Q E ⟨h,g,d,t,os⟩:=by
 repeat (first | with_reducible refine wpAny_loadPart_at hC ?_ | with_reducible refine wpAny_madeBy_exc hC ?_ | wp_step)
 refine codeAny_call_builtin_code (Code.quiet_builtin _ Fn.quiet) (wpAny_check_new_subU Fn hBn T hC ?_);refine codeAny_exc_new_subU Fn hBn F T hC ?_ hrest;show wpAny _ _ _ _ _ _;have hC₁:=G6 {cls:=.ref C,data:=.fields #[.ref h.objs.size,.none,.none,.none,.bool false,.none]}
  (G6 {cls:=.type "tuple",data:=.seq bS.toArray} hC)
 have hget:((h.push {cls:=.type "tuple",data:=.seq bS.toArray}).push
   {cls:=.ref C,data:=.fields #[.ref h.objs.size,.none,.none,.none,.bool false,.none]}).get? (h.objs.size+1)=some
   {cls:=.ref C,data:=.fields #[.ref h.objs.size,.none,.none,.none,.bool false,.none]}:=by heap_get
 have hcC:(Value.ref C::bm).contains (.ref C)=true:=by simp
 have X₁:K.In ((h.push {cls:=.type "tuple",data:=.seq bS.toArray}).push {cls:=.ref C,data:=.fields #[.ref h.objs.size,.none,.none,.none,.bool false,.none]}):=
  X.keeps λb o e=>G6 _ (G6 _ e)
 unfold isInstance
 repeat (first | with_reducible refine wpAny_loadPart_at hget ?_ | (with_reducible refine wpAny_isSubtype_exc hC₁ ?_;rw[hcC]) | wp_step)
 show wpAny _ _ (typeLookup (.ref C) _) _ _ _;refine(PySem.W.looks_findIn X₁ hi).at ?_;refine wpAny_holding (wpAny_bind ((PySem.W.bind_fn X₁ _ hf).at ?_));refine wpAny_bind (wpAny_mono (hq _ (h.objs.size+1) ⟨λb o hb=>G6 _ (G6 _ hb),Heap.get?_none_of_le (Nat.le_succ _),h.objs.size,hget,Heap.get?_none_of_le (Hr _),?_⟩) (λr s' hr=>?_) λ_ _ x=>x)
 ·exact G6 _ (Heap.get?_push_at rfl rfl)
 ·obtain⟨rfl,hQ⟩:=hr
  wp_walk
  exact hQ
theorem ot(Fn:ExcBaseFacts Bn newId inN bmN)(hBn:bmB.contains (.type Bn)=true)(F:ExcBaseFacts B nid initId bmB)(T:OwnTail h bmB bm)(X:K.In h){bS:Ia}{fI:Addr}{Q:HV}
  (hC:h.get? C=some (excClassObj nm q C N bs bm hdct sn sub ab col dd k0 k1 k2 k3 k5 newId)) (hi:PySem.W.findIn K (.ref C) "__init__"=some (some (.ref fI))) (hf:PySem.W.typeIn K (.ref fI)=some (.type "function"))
  (hq:∀h' e,Heap.MadeExcOf h h' e (.ref C) bS ->
   wpAny (model prog w) (A.under (.builtin "type.__call__" ⟨.ref C::bS,[]⟩)) (call (.ref fI) (.ref e::bS)) (λr s'=>r=.none/\Q (.ref e) s') E ⟨h',g,d,t,os⟩) (hrest:bS.length<=sizeLine) :
  wpAny (model prog w) A (call (.ref C) bS) Q E ⟨h,g,d,t,os⟩:=by
 have f1:=tc_lookup;have f2:=tc_bind (.ref C);have hT:(⟨h,g,d,t,os⟩:Shared).TypeIs (.ref C) "type":=⟨_,hC,rfl⟩;refine wpAny_call (codeAny_of_tree ?_);show wpAny _ _ (callAny (.ref C) _) _ _ _
 repeat (any_goals (first | assumption | with_reducible refine wpAny_loadPart_at hC ?_ | wp_step))
 refine⟨rfl,?_⟩;refine codeAny_call_builtin_at (Code.quiet_builtin _ (by decide +kernel)) entry_typeCall (wpAny_check_type_call_sub hC (j3 (hrest:=hrest) Fn hBn F T X hC hi hf λh' e hm=>?_));exact hq h' e hm
end
section
variable {prog:Ig}{w:Ij}{A:Ii}{E:HV}{s:HZ}{env:Env}
variable {nm q:Str}{C N:Addr}{bs bm bmB:Ia}{hdct:Bool}{sn:Ih}{sub:Ia}{ab:Bool}{col:Option Bool}{dd:Ik}{k0 k1 k2 k3 k5:Option Value}{B Bn newId nid initId inN:String}{bmN:Ia}{K:HW}
theorem lX(Fn:ExcBaseFacts Bn newId inN bmN)(hBn:bmB.contains (.type Bn)=true)(F:ExcBaseFacts B nid initId bmB){x:Str}{np cpos pos:Pos}{args:Il}{fI:Addr}{Q:Flow->Shared->Prop}
  (hbase:bm.contains (.type "BaseException")=true) (hh:A.handled=none) (hplain:(backTo cpos (starEach args env)).any (·.1)=false) (hi:PySem.W.findIn K (.ref C) "__init__"=some (some (.ref fI))) (hf:PySem.W.typeIn K (.ref fI)=some (.type "function"))
  (h:wpAny (model prog w) A (eval (.Name x np) env) (λf s₁=>f=.ref C/\wpAny (model prog w) A (evalArgs (.ref C) true (backTo cpos (starEach args env)) [])
   (λa s₂=>a.kw=[]/\a.pos.length<=sizeLine/\s₂.heap.get? C=some (excClassObj nm q C N bs bm hdct sn sub ab col dd k0 k1 k2 k3 k5 newId)/\K.In s₂.heap/\OwnTail s₂.heap bmB bm /\
    ∀h' e,Heap.MadeExcOf s₂.heap h' e (.ref C) a.pos->wpAny (model prog w) (A.under (.builtin "type.__call__" ⟨.ref C::a.pos,[]⟩)) (call (.ref fI) (.ref e::a.pos))
     (λr s'=>r=.none/\∃oe vs,s'.heap.get? C=some (excClassObj nm q C N bs bm hdct sn sub ab col dd k0 k1 k2 k3 k5 newId)/\s'.heap.get? e=some oe/\oe.cls=.ref C/\oe.data=.fields vs/\vs[1]?=some .none/\E (.ref e) s') E {s₂ with heap:=h' }) E s₁) E s) :
  wpAny (model prog w) A (exec (.Raise (some (.Call (.Name x np) args [] cpos)) none pos) env) Q E s:=by
 rw[arm_exec_Raise];simp only[evalOpt,Option.map];refine wpAny_bind (wpAny_standAt (o4 (C:=C) (nm:=nm) (q:=q) (N:=N) (bs:=bs) (bm:=bm) (hdct:=hdct) (sn:=sn) (sub:=sub) (ab:=ab) (col:=col) (dd:=dd) (k0:=k0) (k1:=k1) (k2:=k2) (k3:=k3) (k5:=k5) (newId:=newId) hbase hh (wpAny_bind (wpAny_mono (wpAny_Call_ofName (wpAny_mono h (λf s₁ h₁=>?_) λ_ _ x=>x)) (λv s₃ h₃=>wpAny_bind (wpAny_standAt (wpAny_pure h₃))) λ_ _ x=>x))));obtain⟨rfl,h₁⟩:=h₁;unfold callWith;refine wpAny_bind (wpAny_holding (wpAny_mono h₁ (λa s₂ h₂=>wpAny_bind (wpAny_standAt ?_)) λ_ _ x=>x));obtain⟨apos,akw⟩:=a;obtain⟨hkw,hlen,hC,hX,T,h₂⟩:=h₂;obtain rfl:akw=[]:=hkw;obtain⟨hp,g,d,tk,os⟩:=s₂;simp only[hplain];refine wpAny_bind (wpAny_keeperOf_exc hC ?_);refine wpAny_bind (ot (hrest:=hlen) Fn hBn F T hX hC hi hf λh' e hm=>wpAny_mono (h₂ h' e hm) (λr s' hr=>⟨hr.1,wpAny_bind (wpAny_holding (wpAny_point (wpAny_pure ?_)))⟩) λ_ _ x=>x);obtain⟨_,oe,vs,a1,a2,a3,a4,a5,a6⟩:=hr;exact⟨e,oe,vs,rfl,a1,a2,a3,a4,a5,a6⟩
end
end PySem
namespace PySem.W
open PySem PySem.Spec PySem.Calls PyProof.Rows
open Builtin Builtin.ObjectAttr
noncomputable def excOut(K:Frag)(C:Addr)(bmB:Ia)(newId:String):Bool:=match K.lookup C with
 |some ⟨.type "type",_,.cls cd,sl⟩=>(match cd.mro,sl.toList with
  | .ref C'::bm,[_,_,_,_,some (.builtin n),_]=>C'==C&&n==newId && !cd.hasDel&&tailIn K bmB bm&&nsOkIn K cd.ns
  |_,_=>false)
 |_=>false
noncomputable def strip:List Value->List Value
 | .ref _::r=>strip r
 |l=>l
theorem kR(self:Value):∀{l bm:Ia},strip l=bm->refuseLoop self "__setattr__" bm=pure ()->refuseLoop self "__setattr__" l=pure ()
 | [],_,e,h=>by rw[show([]:List Value)=_ from e];exact h
 | .ref c::r,_,e,h=>by rw[refuseLoop_ref];exact kR self (l:=r) e h
 | .type n::r,_,e,h=>by rw[show(Value.type n::r)=_ from e];exact h
 | .none::r,_,e,h=>by rw[show(Value.none::r)=_ from e];exact h
 | .bool b::r,_,e,h=>by rw[show(Value.bool b::r)=_ from e];exact h
 | .int i t::r,_,e,h=>by rw[show(Value.int i t::r)=_ from e];exact h
 | .float i t::r,_,e,h=>by rw[show(Value.float i t::r)=_ from e];exact h
 | .str i t::r,_,e,h=>by rw[show(Value.str i t::r)=_ from e];exact h
 | .bytes i t::r,_,e,h=>by rw[show(Value.bytes i t::r)=_ from e];exact h
 | .builtin n::r,_,e,h=>by rw[show(Value.builtin n::r)=_ from e];exact h
 | .ellipsis::r,_,e,h=>by rw[show(Value.ellipsis::r)=_ from e];exact h
 | .notImplemented::r,_,e,h=>by rw[show(Value.notImplemented::r)=_ from e];exact h
structure XSt(K:Frag)(C:Addr)(f:Str):Prop where
 sa:findIn K (.ref C) "__setattr__"=some (some (.builtin "object.__setattr__"))
 st:∃cd,clsIn K C=some cd/\strip cd.mro=[.type "ValueError",.type "Exception",.type "BaseException",.type "object"]/\cd.hasDict=true/\cd.mro.contains (.type "object")=true/\cd.mro.isEmpty=false
 no:findIn K (.ref C) f=some none
section
variable {prog:Ig}{w:Ij}{A:Ii}{E:HV}{s:HZ}{K:Frag}{x C:Addr}{ox:Obj}{vs:Array Value}{name:Str}{v:Value}
theorem set_new{Q:Unit->Shared->Prop}(X:K.In s.heap)(c:XSt K C name)(hx:s.heap.get? x=some ox)(hcl:ox.cls=.ref C)(hdn:ox.dict=none)(hdt:ox.data=.fields vs)
  (h:∀h' t',(∀b o,b≠x->s.heap.get? b=some o->h'.get? b=some o)->h'.get? x=some {ox with dict:=some s.heap.objs.size}->h'.Ns1 s.heap.objs.size (λy=>if y=name then some v else none)->Q () {s with heap:=h',toks:=t' }) :
  wpAny (model prog w) A (setAttr (.ref x) name v) Q E s:=by
 obtain⟨cd,hc,hst,hhd,hob,hne⟩:=c.st;obtain⟨oc,od,dt,sl⟩:=ox;dsimp only at hcl hdn hdt;subst hcl hdn hdt;have J:InstAt s.heap x ⟨.ref C,none,.fields vs,sl⟩ C none:=⟨hx,rfl,rfl,trivial⟩;obtain⟨hh,g,d,t,os⟩:=s;have SF:=PySem.F.store_object;refine set_plain X J c.sa ?_;have sub:Looks (model prog w) hh (isInstance (.ref x) (.type "object")) true:=J.type.andThen (looks_mroIn X (by unfold mroIn;rw[hc,Option.bind_some,if_neg (by rw[hne];decide),hob]));refine codeAny_call_builtin SF.slot.plain SF.entry (@check_slot (model prog w) _ _ _ "object.__setattr__" "object" "__setattr__" (.ref x) [.str name t,v] [] _ SF.kind SF.split sub (SF.args (.ref x) (.str name t) v) ?_);have hm:Looks (model prog w) hh (mroOf (.ref C)) cd.mro:=(looks_clsIn X hc).andThen .now;rw[osa_eq,refuse_eq];refine wpAny_bind (wpAny_bind (J.type.at (wpAny_bind (hm.at ?_))));rw[kR _ hst (PySem.F.store_ValueError.passes _)];refine wpAny_pure (wpAny_bind (J.type.at (wpAny_bind ((looks_findIn X c.no).at (wpAny_bind (wpAny_pure ?_))))));have hx₁:(hh.push {cls:=.type "dict",data:=.dict #[]}).get? x=some ⟨.ref C,none,.fields vs,sl⟩:=G6 _ hx;have hxs:x≠hh.objs.size:=Hm (Hu hx);show wpAny _ _ (storeInOwnDict (.ref x) (.ref C) (.str name t) name v false) _ _ _;refine wpAny_bind (wpAny_pure (wpAny_bind (wpAny_bind (wpAny_loadPart hx ?_))));refine wpAny_bind ((looks_clsIn X hc).at ?_);rw[if_neg (by rw[hhd];decide)];dsimp only;rw[if_neg (by simp[typeHasDict])];refine wpAny_bind (wpAny_alloc' ?_);refine wpAny_bind (wpAny_update' hx₁ ?_);refine wpAny_pure ?_;have hgd:((hh.push {cls:=.type "dict",data:=.dict #[]}).update x λo=>{cls:=o.cls,dict:=some hh.objs.size,data:=o.data,slots:=o.slots}).get? hh.objs.size
   = some {cls:=.type "dict",data:=.dict #[]}:=
  (Heap.get?_update_ne _ _ _ _ hxs.symm).trans (Heap.get?_push_at rfl rfl)
 have hnd:((hh.push {cls:=.type "dict",data:=.dict #[]}).update x λo=>{cls:=o.cls,dict:=some hh.objs.size,data:=o.data,slots:=o.slots}).Ns hh.objs.size (λ_=>none):=
  ⟨_,#[],_,hgd,rfl,λe he=>absurd he (by simp),λ_=>rfl⟩
 show wpAny _ _ (storeInDict hh.objs.size (.str name t) name v) _ _ _;unfold storeInDict newKeyGuard;refine wpAny_bind (wpAny_pure (wpAny_bind (wpAny_nsSet1 (Heap.Ns1.of_empty hnd) λh' hn' hs=>?_)));obtain⟨oD,esD,epD,hoD,hdD,hcD⟩:=hn'.count (Within.cons name v Within.nil);refine wpAny_bind (wpAny_lookBehind hoD (by rw[hdD];exact pastItsLine_dict (Hy hcD (by rw[He,List.length_nil,sizeLine_eq];omega))) ?_);refine wpAny_pure (h h' _ (λb o hb e=>(hs.2 b (Hm (Hu e))).trans ((Heap.get?_update_ne _ _ _ _ hb).trans (G6 _ e))) ?_ hn');exact(hs.2 x hxs).trans (Hd _ hx₁ rfl)
end
end PySem.W
namespace L2
open PySem PySem.Spec PyProof.Rows
structure zb(K:HW)(C:Addr)(bmB:Ia)(newId:String):Prop where
 exc:PySem.W.excOut K C bmB newId=true
theorem zb.obj{K:HW}{C:Addr}{bmB:Ia}{newId:String}{h:Heap}(c:zb K C bmB newId)(X:K.In h):∃bm N nm q bs hdct sn sub ab col dd k0 k1 k2 k3 k5,
  h.get? C=some (excClassObj nm q C N bs bm hdct sn sub ab col dd k0 k1 k2 k3 k5 newId)/\OwnTail h bmB bm/\∃dd' cd sl,K.lookup C=some ⟨.type "type",dd',.cls cd,sl⟩/\cd.mro=.ref C::bm:=by
 have q:=c.exc;unfold PySem.W.excOut at q;cases hl:K.lookup C with
 |none=>rw[hl]at q;cases q
 |some ob=>
  rw[hl]at q
  split at q
  ·rename_i dd cd sl e
   cases e
   split at q
   ·rename_i C' bm k0 k1 k2 k3 n k5 hm hs
    simp only[Bool.and_eq_true,beq_iff_eq,Bool.not_eq_true']at q;obtain⟨⟨⟨⟨rfl,rfl⟩,hdel⟩,ht⟩,hok⟩:=q;have ho:=X _ _ hl;have hsl:sl=#[k0,k1,k2,k3,some (.builtin n),k5]:=Array.toList_inj.mp hs;subst hsl;obtain⟨nm,bs,mro,ns,qn,hd,sn,sub,ab,col,del⟩:=cd;dsimp only at hm hdel hok ho;subst hm hdel;exact⟨bm,ns,nm,qn,bs,hd,sn,sub,ab,col,dd,k0,k1,k2,k3,k5,ho,PySem.W.tail_of_in X ht,dd,_,_,rfl,rfl⟩
   ·cases q
  ·cases q
def De(ea:Addr)(cls:Value)(od:Ik)(h:Heap):Prop:=∃o vs,h.get? ea=some o/\o.cls=cls/\o.dict=od/\o.data=.fields vs/\vs[1]?=some .none/\vs[2]?=some .none/\vs.size=6
noncomputable abbrev xn(ea:Addr)(cls:Value)(od:Ik):HO:=.ext (De ea cls od)
theorem pM{ea:Addr}{cls:Value}{od:Ik}:∀h1 h2:Heap,De ea cls od h1->(∀o,h1.get? ea=some o->h2.get? ea=some o)->De ea cls od h2:=
 λh1 h2 ⟨o,ws,e1,e2,e3,e4,e5⟩ k=>⟨o,ws,k o e1,e2,e3,e4,e5⟩
section
variable {X:Cx}{o value:Expr}{f:Str}{pos pos':Pos}{ta tv:TE}
noncomputable def Ah(K:HW)(ta tv:TE)(f:Str):TS:=λD σ H=>tv σ H λy H1=>ta σ H1 λx H2=>∃a C,x=.ref a/\H2 a=some (xn a (.ref C) none)/\PySem.W.XSt K C f /\
 ∀d,H2 d=none->D.nx σ (au (au H2 d (.xd [(f,y)])) a (xn a (.ref C) (some d)))
theorem Bt(ha:PE X o ta)(hv:PE X value tv)(hs:swapsWith value (some (.Attribute o f pos')) pos.line X.env=pure false):PS X (.Assign [.Attribute o f pos'] value pos) (Ah X.K ta tv f):=by
 intro pins s σ H D I h;refine plainObj_wpAny_Assign_Attribute (bK (hv pins s σ H _ I h) λu s1 ⟨y,H1,I1,ry,q⟩=>bK (ha pins s1 σ H1 _ I1 q) λov s2 ⟨x,H2,I2,rx,a,C,ex,ea,c,q2⟩=>?_) hs;subst ex;obtain rfl:ov=Value.ref a:=rx;obtain⟨⟨ob,ws,e1,e2,e3,e4,e5⟩,_,_⟩:=(show bE X.prog X.w H2 s2.heap a (xn a (.ref C) none) from I2.hok a _ ea);refine PySem.W.set_new I2.kIn c e1 e2 e3 e4 λh' t' hk hx hn=>?_;have hfr:H2 s2.heap.objs.size=none:=I2.hok.fresh (Hr _);have hne:s2.heap.objs.size≠a:=Nat.ne_of_gt (Hu e1);have oa:(h'.update a λ_=>ob).get? a=some ob:=Hd _ hx (Obj.isFreed_of_fields e4);have oo:∀b,b≠a->(h'.update a λ_=>ob).get? b=h'.get? b:=λb hb=>G' _ _ (Ne.symm hb);have I3:Inv X pins σ (au H2 s2.heap.objs.size (.xd [(f,y)])) {s2 with heap:=h'.update a λ_=>ob,toks:=t' }:=I2.laid (λb u z=>by
   by_cases hb:b=a
   ·subst hb;rw[e1]at z;cases z;exact oa
   ·rw[oo b hb];exact hk b u hb z) (Hr _) ⟨_,hn.at λo z=>(oo _ hne).trans z,λg=>?_⟩
 ·have I4:=I3.write (x:=a) (e:=a) (o:=xn a (.ref C) (some s2.heap.objs.size)) (h':=h') (t':=t') (by rw[ao (Ne.symm hne),ea];exact True.intro) (.inl rfl) (λb u hb z=>by rw[<- oo b hb];exact z) ⟨_,hx⟩ ⟨⟨_,ws,hx,e2,rfl,e4,e5⟩,⟨_,hx⟩,pM⟩
  exact⟨σ,_,I4,q2 _ hfr⟩
 ·show jo (List.lookup g [(f,y)]) (if g=f then some u else none)
  by_cases z:g=f
  ·have hb:(g==f)=true:=beq_iff_eq.mpr z
   simp only[List.lookup,hb,if_pos z];exact ry
  ·have hb:(g==f)=false:=beq_eq_false_iff_ne.mpr z
   simp only[List.lookup,hb,if_neg z];exact True.intro
end
noncomputable def mU(C:Addr)(fn:Str):Sp:=λvs H Q _=>∃a v,vs=[.ref a,v]/\H a=some (xn a (.ref C) none)/\∀d,H d=none->Q .non (au (au H d (.xd [(fn,v)])) a (xn a (.ref C) (some d)))
noncomputable def qy(H:Hp)(e:Addr):Hp:=λb=>if b=e then none else H b
theorem eR{H:Hp}{e b:Addr}(h:b≠e):qy H e b=H b:=by unfold qy;rw[if_neg h]
theorem jz{H:Hp}{e:Addr}:qy H e e=none:=by unfold qy;rw[if_pos rfl]
def zv(X:Cx)(E:XK):Prop:=∀(pins:HX) (σ:St) (H2:Hp) (s2:HZ) (hm:Heap) (H3:Hp) (s3:HZ) (e C:Addr) (od:Ik),Inv X pins σ H2 s2->Inv X pins σ H3 s3->s2.heap.get? e=none ->
 (∀b o,s2.heap.get? b=some o->hm.get? b=some o)->Un (lG X.stack) [] (au H2 e (xn e (.ref C) none)) H3 hm s3.heap->s3.os=s2.os->H3 e=some (xn e (.ref C) od)->E (.ref C) od (qy H3 e)->X.xe (.ref e) s3
section
variable {P:Ig}{w:Ij}{K:HW}{mg:Ic}{base:Heap}{N:Ih}{qual:Str}{scope:Scope}{f:Addr}{cd:Value}{A:Ii}{outer:List Env}{s:HZ}{H:Hp}{E E1:XK}
theorem gJ(hE:∀c d H',E1 c d H'->E c d H'):zv (fJ (b7 P w) P w K mg base N qual scope f cd A outer s H E) E1:=by
 intro pins σ H2 s2 hm H3 s3 e C od I2 I3 new keep un os3 he3 q;obtain⟨⟨oe,vs,g1,g2,g3,g4,g5⟩,_,_⟩:=(show bE P w H3 s3.heap e (xn e (.ref C) od) from I3.hok e _ he3);have ne:∀b o,s2.heap.get? b=some o->b≠e:=λb o z y=>by rw[y,new]at z;cases z
 have h2e:H2 e=none:=by
  cases z:H2 e with
  |none=>rfl
  |some o=>
   obtain⟨ob,hob⟩:=(I2.hok e o z).there;rw[new]at hob;cases hob
 have hin:∀env∈(fJ (b7 P w) P w K mg base N qual scope f cd A outer s H E).stack,∀b,env.frame=some b->b∈e::lG (fJ (b7 P w) P w K mg base N qual scope f cd A outer s H E).stack:=λenv he b hb=>.tail _ (List.mem_filterMap.mpr ⟨env,he,hb⟩);have hff:=PySem.W.funFrames_hide I3.stack hin;have u0:∀b,b≠e->H2 b=none->au H2 e (xn e (.ref C) none) b=none:=λb hb n=>by rw[ao hb];exact n
 have fly0:Fly0 P w (fJ (b7 P w) P w K mg base N qual scope f cd A outer s H E).stack H2 s2 (PySem.W.hideAll s3.heap (e::lG (fJ (b7 P w) P w K mg base N qual scope f cd A outer s H E).stack)) (qy H3 e) s3:=by
  refine⟨λb o z=>PySem.W.of_hideAll _ z,hff,⟨λb o z n hb _=>un.keep b o (keep b o z) (u0 b (ne b o z) n) hb (by simp),λb o z n hb _=>un.slot b o (keep b o z) (u0 b (ne b o z) n) hb (by simp),λb o z n _=>?_,λb o z _=>un.there b o (keep b o z) (by simp),λb xs z=>?_,λb o y z=>?_,λb ps z=>?_⟩,λb o z=>?_,λb o z=>?_,λb o z hb=>?_,os3,I3.bare⟩
  ·rw[eR (ne b o z)]
   exact un.free b o (keep b o z) (u0 b (ne b o z) n) (by simp)
  ·have hb:b≠e:=aA z h2e
   rw[eR hb];exact un.tups b xs (by rw[ao hb];exact z)
  ·have hb:b≠e:=aA z h2e
   rw[eR hb];exact un.frzs b o y (by rw[ao hb];exact z)
  ·have hb:b≠e:=aA z h2e
   rw[eR hb];exact un.tbls b ps (by rw[ao hb];exact z)
  ·have hb:b≠e:=λy=>by rw[y,jz]at z;cases z
   rw[eR hb]at z;exact(I3.hok b o z).stay (λ_ _ _ y=>y) (λc y=>by rw[eR (λx=>by rw[x,he3]at y;cases y)];exact y) λc xs y=>by rw[eR (λx=>by rw[x,he3]at y;cases y)];exact y
  ·have hb:b≠e:=λy=>by rw[y,jz]at z;cases z
   rw[eR hb]at z;obtain⟨ob,hob⟩:=(I3.hok b o z).there;refine⟨ob,PySem.W.hideAll_get _ hob λhm=>?_⟩;rcases Hi.mp hm with y | y
   ·exact hb y
   ·rw[I3.stkFree b y]at z;cases z
  ·obtain⟨o',z'⟩:=un.there b o (keep b o z) (by simp)
   refine⟨o',PySem.W.hideAll_get _ z' λhm=>?_⟩;rcases Hi.mp hm with y | y
   ·exact ne b o z y
   ·exact hb y
 have newB:(PySem.W.hideAll s3.heap (e::lG (fJ (b7 P w) P w K mg base N qual scope f cd A outer s H E).stack)).get? e=none:=PySem.W.hideAll_none _ (List.mem_cons_self ..);refine wo (cp:=λv=>v=.none) (s:=s3) I3.ok.frames fly0.ff rfl g1 fly0.st newB g4 g5.1 ⟨_,g5.2.1,rfl⟩ λh' fl2 up=>?_;rw[g2,g3]at fl2;exact⟨e,.ref C,od,_,qy H3 e,rfl,Fly0.up I2 rfl rfl rfl rfl rfl fly0 fl2 up,jz,hE _ _ _ q⟩
end
structure XI(P:Ig)(w:Ij)(K:HW)(mg:Ic)(base:Heap)(k:Nat)(C:Addr)(fn:Str):Prop where
 ex:∃(bm bmN:Ia) (newId Bn inN B nid initId:String) (fI:Addr) (fd:Ie) (ps:Ih),zb K C bm newId/\ExcBaseFacts Bn newId inN bmN/\bm.contains (.type Bn)=true/\ExcBaseFacts B nid initId bm /\
  PySem.W.findIn K (.ref C) "__init__"=some (some (.ref fI))/\PySem.W.typeIn K (.ref fI)=some (.type "function")/\aZ P w K mg base bF k fI fd ps (mU C fn)/\cV K fd ps []
section
variable {X:Cx}{x:Str}{np cpos pos:Pos}{e₀:Expr}{t:TA}{C:Addr}{fn:Str}{k:Nat}{E:XK}
noncomputable def qS(C:Addr)(fn:Str)(E:XK)(t:TA):TS:=λ_ σ H=>t σ H λvs H1=>vs.length<=sizeLine/\∃v,vs=[v]/\∀d,H1 d=none->E (.ref C) (some d) (au H1 d (.xd [(fn,v)]))
theorem gU(c:XI X.prog X.w X.K X.mg X.base k C fn)(hr:cF (k+1) X.A)(hc:X.calm=true)(hg:Gl X x)(hm:X.mg x=some (.ref C))(hx:zv X E)(ha:PA X [e₀] t)
  (hd:autoParam ((x==("__debug__":Str))=false) zz2._auto_1) (he:autoParam (starEach [e₀] X.env=(false,eval e₀ X.env)::starEach [] X.env) zz0._auto_1) (hpl:autoParam ((backTo cpos (starEach [] X.env)).any (·.1)=false) zz0._auto_1) :
  PS X (.Raise (some (.Call (.Name x np) [e₀] [] cpos)) none pos) (qS C fn E t):=by
 obtain⟨bmB,bmN,newId,Bn,inN,B,nid,initId,fI,fd,ps,c1,c2,c3,c4,hi,hf,F,hb⟩:=c.ex;intro pins s σ H D I h;obtain⟨tl,N,nm,q,bs,hdct,sn,sub,ab,col,dd,k0,k1,k2,k3,k5,hC,T,_⟩:=c1.obj I.mod.kin;refine lX (K:=X.K) (fI:=fI) (C:=C) (nm:=nm) (q:=q) (N:=N) (bs:=bs) (bm:=tl) (hdct:=hdct) (sn:=sn) (sub:=sub) (ab:=ab) (col:=col) (dd:=dd) (k0:=k0) (k1:=k1) (k2:=k2) (k3:=k3) (k5:=k5)
  c2 c3 c4 (T.hasType c4.hasBase) (I.ok.hd hc) (by rw[he];show(false||(backTo cpos (starEach [] X.env)).any (·.1))=false;rw[hpl];rfl) hi hf (jw I hg hm ⟨rfl,?_⟩ hd)
 rw[he];have ha':=ha cpos pins s σ H _ I h;rw[he]at ha';refine Calls.evalArgs_plain (wpAny_mono ha' (λus s₂ ⟨vs,H1,I1,r1,z,v,ev,q1⟩=>⟨rfl,by rw[<- r1.length];exact z,I1.bk _ _ hC,I1.kIn,T.keeps I1.bk,λh' e hx'=>?_⟩) λ_ _ y=>y);subst ev;obtain⟨u,rfl,ru⟩:=r1.one;obtain⟨t0,he0,ht0,htt⟩:=hx'.there;have ne:∀b o,s₂.heap.get? b=some o->b≠e:=λb o z y=>by rw[y,hx'.new]at z;cases z
 have h1e:H1 e=none:=by
  cases z:H1 e with
  |none=>rfl
  |some o=>
   obtain⟨ob,hob⟩:=(I1.hok e o z).there;rw[hx'.new]at hob;cases hob
 have Im:Inv X pins σ (au H1 e (xn e (.ref C) none)) {s₂ with heap:=h' }:=by
  refine I1.call' (s':={s₂ with heap:=h' }) (ch:=[]) rfl ⟨λb o z _ _ _=>hx'.keeps b o z,λb o z _ _ _=>⟨o.slots,hx'.keeps b o z⟩,λb o z n _=>by rw[ao (ne b o z)];exact n,λb o z _=>⟨o,hx'.keeps b o z⟩,λb xs z=>by rw[ao (aA z h1e)];exact z,λb o y z=>by rw[ao (aA z h1e)];exact z,λb ps z=>⟨#[],by rw[ao (aA z h1e),z];simp⟩⟩ (λb o z=>?_) I1.bare (λb z=>absurd z (by simp))
  by_cases hb:b=e
  ·subst hb
   rw[ac]at z;cases z;exact⟨⟨_,_,he0,rfl,rfl,rfl,rfl,rfl,rfl⟩,⟨_,he0⟩,pM⟩
  ·rw[ao hb]at z
   exact(I1.hok b o z).stay (λc u _ y=>hx'.keeps c u y) (λc y=>by rw[ao (aA y h1e)];exact y) λc xs y=>by rw[ao (aA y h1e)];exact y
 have hsp:mU C fn [.ref e,v] (au H1 e (xn e (.ref C) none)) (λr H3=>r=.non/\∃d,H3 e=some (xn e (.ref C) (some d))/\E (.ref C) (some d) (qy H3 e)) (λ_ _ _=>False):=by
  refine⟨e,v,rfl,ac,λd hd'=>⟨rfl,d,ac,?_⟩⟩;have hde:d≠e:=λy=>by rw[y,ac]at hd';cases hd'
  rw[ao hde]at hd';have ee:qy (au (au (au H1 e (xn e (.ref C) none)) d (.xd [(fn,v)])) e (xn e (.ref C) (some d))) e=au H1 d (.xd [(fn,v)]):=by
   funext b
   by_cases hb:b=e
   ·rw[hb,jz,ao (Ne.symm hde)];exact h1e.symm
   ·rw[eR hb,ao hb]
    by_cases hbd:b=d
    ·rw[hbd,ac,ac]
    ·rw[ao hbd,ao hb,ao hbd]
  rw[ee];exact q1 d hd'
 have hl:([Value.ref e,u]++[]).length=ps.length:=(F.len _ _ _ _ hsp:[V.ref e,v].length=ps.length);have r2:aT [V.ref e,v] [Value.ref e,u]:=.cons rfl (.cons ru .nil);refine wpAny_call (codeAny_mono (F.run _ X.stack _ _ ⟨[.ref e,u],[]⟩ [.ref e,u] _ _ _ (hr.make C [u] []) (Im.env0.make C [u] []) (hb _ [Value.ref e,u] Im.kIn hl) r2 hsp) λr s' hq'=>?_);cases r with
 |error ev=>exact False.elim hq'
 |ok fl=>
  cases fl with
  |ret u'=>
   obtain⟨v',H3,os3,bare3,un3,hok3,rv,ev,d,he3,qE⟩:=hq';subst ev;have I3:=Im.call' (ch:=[]) os3 un3 hok3 bare3 (λb z=>absurd z (by simp));obtain⟨⟨oe,ws,g1,g2,g3,g4,g5⟩,_,_⟩:=(show bE X.prog X.w H3 s'.heap e (xn e (.ref C) (some d)) from I3.hok e _ he3);exact⟨rv,oe,ws,I3.bk _ _ hC,g1,g2,g4,g5.1,hx pins σ H1 s₂ h' H3 s' e C (some d) I1 I3 hx'.new hx'.keeps un3 os3 he3 qE⟩
  |next=>exact False.elim hq'
  |brk=>exact False.elim hq'
  |cont=>exact False.elim hq'
end
section
variable {X:Cx}{P:Ig}{w:Ij}{e tg:Expr}{tx:TX}{g:TG}{i:Nat}{n x:Str}{D:Addr}{bmD:Ia}{nD:String}{b₀:Stmt}{suite:List Stmt}{apos pos hpos np:Pos}{ts:Addr->TS}
end
section
variable {X:Cx}{pins:HX}{σ:St}{H:Hp}{s:HZ}
end
end L2
namespace PySem.W
open PySem PySem.Spec PySem.Calls PyProof.Rows
section
variable {prog:Ig}{w:Ij}{A:Ii}{E:HV}{s:HZ}{K:Frag}{x D:Addr}{ox:Obj}{odo:Option Obj}{name:Str}
end
end PySem.W
namespace L2
open PySem PySem.Spec PyProof.Rows
section
variable {X:Cx}{e:Expr}{ta:TE}{f:Str}{pos:Pos}
end
end L2
namespace SpM
open PySem
noncomputable def step(c:Nat)(rows:List (List Nat))(d:Nat):List (List Nat):=if d=c then rows++[[]] else rows.dropLast++[rows.getLastD []++[d]]
noncomputable def ES(c:Nat)(x:HY):List (List Nat):=x.foldl (step c) [[]]
end SpM
namespace PyProof.Rows
open PySem PySem.Spec PySem.Builtin PySem.Builtin.Str
section
variable {prog:Ig}{w:Ij}{A:Ii}{E:HV}{s:HZ}{x y:Str}{t u:Tok}{Q:HV}
end
end PyProof.Rows
namespace L2
open PySem PySem.Spec PyProof.Rows QL
section
variable {X:Cx}
end
structure yP(K:HW)(C:Addr)(m:Str)(f:Addr):Prop where
 sp:PySem.W.specialIn K (.ref C) "__getattribute__"=some (some (.builtin "type.__getattribute__"))
 rd:PySem.W.readsIn K C (.type "type")=true
 fi:PySem.W.findCls K (.ref C) (.type "type") m=some (.val (.ref f))
 kp:PySem.W.keepIn K (.ref f)=true
section
variable {X:Cx}{CX:j9}{k:Nat}{f C:Addr}{fd:Ie}{ps:Ih}{sp:Sp}{E:XK}{x m:Str}{p pos apos:Pos}{e:Expr}{es:Il}{t:TA}
theorem zJ{pl:Sem Bool}(c:yP X.K C m f)(F:aZ X.prog X.w X.K X.mg X.base CX k f fd ps sp)(hr:cF k X.A)(hg:Gl X x)(hm:X.mg x=some (.ref C))(hb:cV X.K fd ps [])(hx:cG CX X E)(ha:PA X (e::es) t)
  (hdb:autoParam ((x==("__debug__":Str))=false) zz2._auto_1) (hst:autoParam (starEach (e::es) X.env=(false,eval e X.env)::starEach es X.env) zz0._auto_1) (hpl:autoParam ((backTo pos (starEach es X.env)).any (·.1)=false) zz0._auto_1)
  (ht:autoParam (eval (.Call (.Attribute (.Name x p) m apos) (e::es) [] pos) X.env=(do
   let ov <- eval (.Name x p) X.env
   standAt apos.atName
   let (f,first) <- holding [ov] (getMethod ov m pl)
   callWith pos f first (backTo pos (starEach (e::es) X.env)) (backToKw pos (keywordEach [] X.env)))) zz0._auto_1) :
  PE X (.Call (.Attribute (.Name x p) m apos) (e::es) [] pos) (nG sp [] E t):=by
 intro pins s σ H Q I h;refine PySem.W.methodCall_KW (pl:=pl) (jw I hg hm ?_ hdb) ht;refine PySem.W.method_cls I.kIn c.sp (PySem.W.cls_value I.kIn c.rd c.fi rfl ?_);have I1:=I.tok (s.toks+1);refine PySem.W.callWith_K (first:=[]) (h₀:=X.base) I.ok.mod.kin c.kp (bK (ha pos pins _ σ H _ I1 h) λus s2 ⟨vs,H2,I2,r,q2⟩=>⟨I2.kIn,?_⟩) hst hpl;exact lI F hr hb .nil hx I2 r q2
end
section
variable (P:Ig)(w:Ij)(K:HW)(mg:Ic)(base:Heap)(CX:j9)
structure xJ(k:Nat)(x m:Str)(ps:Ih)(sp:Sp):Prop where
 ex:∃(C f:Addr) (fd:Ie),aZ P w K mg base CX k f fd ps sp/\mg x=some (.ref C)/\yP K C m f/\cV K fd ps []
structure iF(k:Nat)(x:Str)(C:Addr)(ps:Ih)(sp:Sp):Prop where
 ex:∃(f:Addr) (fd:Ie),aZ P w K mg base CX k f fd ps sp/\mg x=some (.ref C)/\Mk K C f/\cV K fd ps []
structure eM(k:Nat)(C:Addr)(m:Str)(ps:Ih)(sp:Sp):Prop where
 ex:∃(f:Addr) (fd:Ie),aZ P w K mg base CX k f fd ps sp/\kS K C/\dC K C m f/\cV K fd ps []
end
section
variable {X:Cx}{CX:j9}{k:Nat}{C:Addr}{ps:Ih}{sp:Sp}{E:XK}{x m:Str}{p pos apos:Pos}{e o:Expr}{es:Il}{t:TA}{ta:TE}
theorem mT{pl:Sem Bool}(c:xJ X.prog X.w X.K X.mg X.base CX k x m ps sp)(hr:cF k X.A)(hg:Gl X x)(hx:cG CX X E)(ha:PA X (e::es) t)
  (hdb:autoParam ((x==("__debug__":Str))=false) zz2._auto_1) (hst:autoParam (starEach (e::es) X.env=(false,eval e X.env)::starEach es X.env) zz0._auto_1) (hpl:autoParam ((backTo pos (starEach es X.env)).any (·.1)=false) zz0._auto_1)
  (ht:autoParam (eval (.Call (.Attribute (.Name x p) m apos) (e::es) [] pos) X.env=(do
   let ov <- eval (.Name x p) X.env
   standAt apos.atName
   let (f,first) <- holding [ov] (getMethod ov m pl)
   callWith pos f first (backTo pos (starEach (e::es) X.env)) (backToKw pos (keywordEach [] X.env)))) zz0._auto_1) :
  PE X (.Call (.Attribute (.Name x p) m apos) (e::es) [] pos) (nG sp [] E t):=by
 obtain⟨C,f,fd,F,hm,cf,hb⟩:=c.ex;exact zJ cf F hr hg hm hb hx ha hdb hst hpl ht
theorem dB(c:iF X.prog X.w X.K X.mg X.base CX k x C ps sp)(hr:cF (k+1) X.A)(hg:Gl X x)(hx:cG CX X E)(ha:PA X (e::es) t)
  (hdb:autoParam ((x==("__debug__":Str))=false) zz2._auto_1) (hst:autoParam (starEach (e::es) X.env=(false,eval e X.env)::starEach es X.env) zz0._auto_1) (hpl:autoParam ((backTo pos (starEach es X.env)).any (·.1)=false) zz0._auto_1) :
  PE X (.Call (.Name x p) (e::es) [] pos) (wD C sp [] E t):=by
 obtain⟨f,fd,F,hm,M,hb⟩:=c.ex;exact A7 M F hr hg hm hb .nil hx ha hdb hst hpl
theorem ig{pl:Sem Bool}(c:eM X.prog X.w X.K X.mg X.base CX k C m ps sp)(hr:cF k X.A)(hx:cG CX X E)(he:PE X o ta)(ha:PA X (e::es) t)
  (hst:autoParam (starEach (e::es) X.env=(false,eval e X.env)::starEach es X.env) zz0._auto_1) (hpl:autoParam ((backTo pos (starEach es X.env)).any (·.1)=false) zz0._auto_1)
  (ht:autoParam (eval (.Call (.Attribute o m apos) (e::es) [] pos) X.env=(do
   let ov <- eval o X.env
   standAt apos.atName
   let (f,first) <- holding [ov] (getMethod ov m pl)
   callWith pos f first (backTo pos (starEach (e::es) X.env)) (backToKw pos (keywordEach [] X.env)))) zz0._auto_1) :
  PE X (.Call (.Attribute o m apos) (e::es) [] pos) (pU C m sp [] E ta t):=by
 obtain⟨f,fd,F,cl,hm,hb⟩:=c.ex;exact BO he cl hm F hr hb .nil hx ha hst hpl ht
theorem yA{pl:Sem Bool}(c:eM X.prog X.w X.K X.mg X.base CX k C m ps sp)(hr:cF k X.A)(hx:cG CX X E)(he:PE X o ta)
  (ht:autoParam (eval (.Call (.Attribute o m apos) [] [] pos) X.env=(do
   let ov <- eval o X.env
   standAt apos.atName
   let (f,first) <- holding [ov] (getMethod ov m pl)
   callWith pos f first (backTo pos (starEach [] X.env)) (backToKw pos (keywordEach [] X.env)))) zz0._auto_1) :
  PE X (.Call (.Attribute o m apos) [] [] pos) (pU C m sp [] E ta oZ):=by
 obtain⟨f,fd,F,cl,hm,hb⟩:=c.ex;exact Az he cl hm F hr hb .nil hx ht
end
section
variable {g:TG}{ti:TT}{te:TE}{σ:St}{H:Hp}{Q:List V->Hp->Prop}
theorem zO{x:Str}(Pv:Nat->List V->St->Hp->Prop)(h0:Pv 0 [] σ H)(hz:∀i acc σ H,Pv i acc σ H->acc.length<sizeLine)(hi:∀i acc σ H,Pv i acc σ H->i<=x.cps.size)
  (hs:∀i c acc σ H,x.cps[i]?=some c->Pv i acc σ H->g (.str ⟨#[c]⟩) σ H λσ2 H3=>ti σ2 H3 λb H4=>if b=true then te σ2 H4 λv H5=>Pv (i+1) (acc++[v]) σ2 H5 else Pv (i+1) acc σ2 H4)
  (he:∀acc σ H,Pv x.cps.size acc σ H->Q acc H):gZ (DD x) g ti te σ H Q:=by
 exact jH (J:=DD x) (g:=g) (ti:=ti) (te:=te) (Q:=Q) (n:=x.cps.size) Pv h0 hz hi (λacc σ H w=>Hr _) (λi acc σ H hlt w=>hlt)
  (λi v acc σ H H2 hlt w y=>by obtain⟨rfl,c,hc,rfl⟩:=y;exact hs i c acc σ H2 hc w) he
end
section
variable {X:Cx}{e:Expr}{tx:TX}{i:Nat}{n x:Str}{D:Addr}{bmD:Ia}{nD:String}{b₀:Stmt}{suite:List Stmt}{epos pos hpos np:Pos}{ts:Addr->TS}
end
section
variable (P:Ig)(w:Ij)(K:HW)(mg:Ic)(base:Heap)(CX:j9)
structure o8(k:Nat)(m:Str)(os:List (Addr×Sp)):Prop where
 ex:∀o∈os,∃ps,eM P w K mg base CX k o.1 m ps o.2
end
noncomputable def oG(m:Str)(os:List (Addr×Sp))(E:XK)(ta:TE)(t:TA):TE:=λσ H Q=>ta σ H λx H1=>∃o∈os,∃a dx fs,x=.ref a/\H1 a=some (.ins o.1 dx fs)/\fs.lookup m=none /\
 t σ H1 λvs H2=>o.2 (x::(vs++[])) H2 Q E
section
variable {X:Cx}{CX:j9}{k:Nat}{os:List (Addr×Sp)}{E:XK}{m:Str}{pos apos:Pos}{e o:Expr}{es:Il}{t:TA}{ta:TE}
theorem wI{pl:Sem Bool}(c:o8 X.prog X.w X.K X.mg X.base CX k m os)(hr:cF k X.A)(hx:cG CX X E)(he:PE X o ta)(ha:PA X (e::es) t)
  (hst:autoParam (starEach (e::es) X.env=(false,eval e X.env)::starEach es X.env) zz0._auto_1) (hpl:autoParam ((backTo pos (starEach es X.env)).any (·.1)=false) zz0._auto_1)
  (ht:autoParam (eval (.Call (.Attribute o m apos) (e::es) [] pos) X.env=(do
   let ov <- eval o X.env
   standAt apos.atName
   let (f,first) <- holding [ov] (getMethod ov m pl)
   callWith pos f first (backTo pos (starEach (e::es) X.env)) (backToKw pos (keywordEach [] X.env)))) zz0._auto_1) :
  PE X (.Call (.Attribute o m apos) (e::es) [] pos) (oG m os E ta t):=by
 intro pins s σ H Q I h;refine PySem.W.methodCall_KW (pl:=pl) (bK (he pins s σ H _ I h) λu s1 ⟨x,H1,I1,rx,oc,ho,a,dx,fs,ex,ea,l,q⟩=>?_) ht;subst ex;obtain rfl:u=Value.ref a:=rx;obtain⟨ps,cm⟩:=c.ex oc ho;obtain⟨f,fd,F,cl,hm,hb⟩:=cm.ex;refine fL I1 ea cl hm l ?_;refine PySem.W.callWith_K (first:=[.ref a]) (h₀:=X.base) I.ok.mod.kin hm.kp (bK (ha pos pins s1 σ H1 _ I1 q) λus s2 ⟨vs,H2,I2,r,q2⟩=>⟨I2.kIn,?_⟩) hst hpl;exact lI (us:=.ref a::us) (vs:=.ref a::vs) F hr hb .nil hx I2 (.cons rfl r) q2
theorem yF{pl:Sem Bool}(c:o8 X.prog X.w X.K X.mg X.base CX k m os)(hr:cF k X.A)(hx:cG CX X E)(he:PE X o ta)
  (ht:autoParam (eval (.Call (.Attribute o m apos) [] [] pos) X.env=(do
   let ov <- eval o X.env
   standAt apos.atName
   let (f,first) <- holding [ov] (getMethod ov m pl)
   callWith pos f first (backTo pos (starEach [] X.env)) (backToKw pos (keywordEach [] X.env)))) zz0._auto_1) :
  PE X (.Call (.Attribute o m apos) [] [] pos) (oG m os E ta oZ):=by
 intro pins s σ H Q I h;refine PySem.W.methodCall_KW (pl:=pl) (bK (he pins s σ H _ I h) λu s1 ⟨x,H1,I1,rx,oc,ho,a,dx,fs,ex,ea,l,q⟩=>?_) ht;subst ex;obtain rfl:u=Value.ref a:=rx;obtain⟨ps,cm⟩:=c.ex oc ho;obtain⟨f,fd,F,cl,hm,hb⟩:=cm.ex;refine fL I1 ea cl hm l ?_;exact PySem.W.callWith_K0 (first:=[.ref a]) I1.kIn hm.kp (lI (us:=[.ref a]) (vs:=[.ref a]) F hr hb .nil hx I1 (.cons rfl .nil) q)
end
structure ia(K:HW)(C:Addr):Prop where
 cl:kS K C
 ha:PySem.W.findIn K (.ref C) "__class__"=some (some (.builtin "object.__class__"))
 hn:PySem.W.specialIn K (.builtin "object.__class__") "__get__"=some (some (.builtin "getset_descriptor.__get__"))
 htk:PySem.W.takesIn K (.builtin "object.__class__")=some true
 hm:PySem.W.mroIn K C (.type "object")=some true
theorem ia.ty{K:HW}{C a dx:Addr}{H:Hp}{fs:List (Str×V)}(i:ia K C)(e:H a=some (.ins C dx fs)):jW K H (.ref a) (.ref C):=.ins e i.cl i.ha i.hn i.htk i.hm
section
variable {X:Cx}{CX:j9}{k:Nat}{os:List (Addr×Sp)}{m:Str}{pos apos:Pos}{e o:Expr}{es:Il}{t:TA}{ta:TE}
end
section
variable {X:Cx}{es:Il}{t:TA}
theorem bV{x j p}(hr:PA X es t):PA X (.Constant (.str x) j p::es) (j' (tC (.str x)) t):=aa iW hr rfl
theorem bc{x j p}(hr:PA X es t):PA X (.Constant (.int x) j p::es) (j' (tC (.int x)) t):=aa ah hr rfl
end
end L2
namespace PyProof.Rows
open PySem PySem.Spec PySem.Builtin PySem.Builtin.Str
section
variable {prog:Ig}{w:Ij}{A:Ii}{E:HV}{s:HZ}{x y:Str}{t u:Tok}{Q:HV}
end
end PyProof.Rows
namespace L2
open PySem PySem.Spec PyProof.Rows QL
section
variable {X:Cx}
end
theorem wP:∀(xs:List V) (us:Ia),xs.length=us.length->(∀(j:Nat) (x:V) (u:Value),xs[j]?=some x->us[j]?=some u->ba x u)->aT xs us
 | [],[],_,_=>.nil
 |x::xs,u::us,hl,h=>.cons (h 0 x u rfl rfl) (wP xs us (by simpa using hl) λj y v e1 e2=>h (j+1) y v (by simpa using e1) (by simpa using e2))
section
variable {X:Cx}
noncomputable def uX:List V->Hp->VK->Prop:=λxs H Q=>∃z,xs=[.str z]/\z.length<=sizeLine/\∀l,H l=none->Q (.ref l) (au H l (.lst (z.cps.toList.map λc=>V.str ⟨#[c]⟩)))
theorem uS(hc:X.calm=true):ft X (.type "list") uX:=by
 intro pins s σ H xs us Q I r h;obtain⟨z,rfl,hz,q⟩:=h;obtain⟨u,rfl,t,rfl⟩:=nr r;refine PySem.call_list_str (hn:=hz) (I.ok.hd hc) z t λh' tk acc' c' hk hS hacc=>?_;have hv:aT (z.cps.toList.map λc=>V.str ⟨#[c]⟩) acc'.toList:=by
  refine wP _ _ (by rw[G7];simp[hacc.1]) λj x u e1 e2=>?_;obtain⟨c,tk2,hc2,rfl⟩:=hacc.2 j u (by simpa using e2);rw[G9]at e1;have e3:z.cps.toList[j]?=some c:=by simpa using hc2
  rw[e3]at e1;cases e1;exact⟨_,rfl⟩
 have hl:(z.cps.toList.map λc=>V.str ⟨#[c]⟩).length<=sizeLine:=by
  rw[G7];have e:z.cps.toList.length=z.length:=by show z.cps.toList.length=z.cps.size;simp
  rw[e];exact hz
 exact⟨.ref s.heap.objs.size,au H s.heap.objs.size (.lst (z.cps.toList.map λc=>V.str ⟨#[c]⟩)),I.laid (t':=tk) hk (Hr _) ⟨hl,acc'.toList,c',hv,by simpa using hS⟩,rfl,q _ (I.hok.fresh (Hr _))⟩
end
section
variable {X:Cx}{pins:HX}{σ:St}{H:Hp}{s:HZ}{a:Addr}{kvs:List (cE×V)}{k:cE}{u r:Value}{d:V}{A:Ii}{E:HV}
theorem zX{Q:HV}(I:Inv X pins σ H s)(e:H a=some (.dK kvs))(ry:ba (kV k) u)(rd:ba d r)(hl:kvs.length<sizeLine)
  (h1:∀v w' s',bO kvs k=some v->Inv X pins σ H s'->ba v w'->Q w' s') (h2:bO kvs k=none->∀s',Inv X pins σ (au H a (.dK (cn kvs k d))) s'->Q r s') :
  wpAny (model X.prog X.w) A (call (.builtin "dict.setdefault") [.ref a,u,r]) Q E s:=by
 obtain⟨z,hd,vs,rel,dd⟩:=zt I.hok e;have hz:vs.length<=sizeLine:=by rw[<- rel.length];exact z
 have hl':(cn kvs k d).length<=sizeLine:=by have:=f_ kvs k d;omega
 refine call_meetsIn PySem.F.slot_dict_setdefault dd.typeIs PySem.F.entry_dict_setdefault (PySem.F.args_dict_setdefault_3 _ _ _) (kt_meets_setdefault (b9 X.prog X.w) a (pQ ry) hd r) ⟨vs,dd,hz,λv hv=>?_,λhn h' dd' hs=>?_⟩
 ·have q:=rel.val k
  rw[hv]at q;cases hvv:bO kvs k with
  |none=>rw[hvv]at q;exact False.elim q
  |some v0=>rw[hvv]at q;exact h1 v0 v _ hvv (I.tok _) q
 ·have q:=rel.val k
  rw[hn]at q;have hvv:bO kvs k=none:=by
   cases hvv:bO kvs k with
   |none=>rfl
   |some v0=>rw[hvv]at q;exact False.elim q
  have he:∃q,h'.get? a=some q:=let ⟨q,_,_,hq,_⟩:=dd';⟨q,hq⟩
  exact h2 hvv _ (mW I (by rw[e];exact True.intro) hs he (vT hl' hd (rel.put k rd) dd'))
end
noncomputable def sJ(td ty tx:TE):TE:=λσ H Q=>td σ H λx H1=>∃a,x=.ref a/\EH H1 a/\ty σ H1 λy H2=>tx σ H2 λz H3=>∃kvs k,H3 a=some (.dK kvs)/\y=kV k/\kvs.length<sizeLine /\
 (∀v,bO kvs k=some v->Q v H3)/\(bO kvs k=none->Q z (au H3 a (.dK (cn kvs k z))))
section
variable {X:Cx}{o e f:Expr}{apos cpos:Pos}{td ty tx:TE}
theorem nV(ho:PE X o td)(he:PE X e ty)(hf:PE X f tx)(m:M2 X o "setdefault" apos e f cpos):PE X (.Call (.Attribute o "setdefault" apos) [e,f] [] cpos) (sJ td ty tx):=by
 intro pins s σ H Q I h;refine wpAny_Call_method m.base m.few m.line PySem.F.plainAttrs_dict PySem.F.slot_dict_setdefault PySem.F.type_dict_setdefault (bK (ho pins s σ H _ I h) λu s1 ⟨x,H1,I1,rx,a,ex,d,q1⟩=>?_);subst ex;obtain rfl:u=Value.ref a:=rx;obtain⟨t1,t2,_⟩:=CL I1 d;refine⟨t1,t2,?_⟩;rw[m.trees];refine Calls.callWith_builtin rfl (Calls.evalArgs_plain (Calls.spliced_cons (bK (he pins s1 σ H1 _ I1 q1) λiv s2 ⟨y,H2,I2,ry,q2⟩=>
  Calls.spliced_cons (bK (hf pins s2 σ H2 _ I2 q2) λfv s3 ⟨z,H3,I3,rz,kvs,k,hH,ey,hlen,g1,g2⟩=>Calls.spliced_nil ?_))))
 subst ey;exact zX I3 hH ry rz hlen (λv w' s4 hv I4 rv=>⟨v,H3,I4,rv,g1 v hv⟩) λhn s4 I4=>⟨z,_,I4,rz,g2 hn⟩
end
section
variable {X:Cx}
end
section
variable {K:Type}[DecidableEq K]
noncomputable def dy(σ:List K)(v:K):List K:=if v∈σ then σ else σ++[v]
noncomputable def met(l:List K):List K:=l.foldl dy []
theorem sP(σ:List K)(v k:K):decide (k∈dy σ v)=(decide (k∈σ)||decide (k=v)):=by
 unfold dy
 by_cases h:v∈σ
 ·rw[if_pos h]
  by_cases e:k=v
  ·subst e;simp[h]
  ·simp[e]
 ·rw[if_neg h]
  simp[Hg]
theorem mx(σ:List K)(v:K):(dy σ v).length=if decide (v∈σ) then σ.length else σ.length+1:=by
 unfold dy
 by_cases h:v∈σ<;>simp[h]
theorem sO(l:List K)(v:K):met (l++[v])=dy (met l) v:=by unfold met;rw[List.foldl_append];rfl
theorem ww:∀(l σ:List K),(l.foldl dy σ).length<=σ.length+l.length
 | [],σ=>Hr _
 |v::l,σ=>by
  have h:=ww l (dy σ v);have e:=mx σ v;rw[List.foldl_cons,He]
  split at e<;>omega
theorem Af(n:Nat)(l:List K)(h:l.length=n):(met l).length<=n:=by
 have:=ww l [];rw[<- h];unfold met;simpa using this
end
section
variable {prog:Ig}{w:Ij}{K:Type}[DecidableEq K]{knd:KeyKind prog w K}{A:Ii}{R:Result->Shared->Prop}{I:Addr}{fp wr:Ib}{G:Array GenState->Array GenState->Prop}{n:Nat}{P:Nat->Value->Prop}{St:Nat->Shared->Prop}
theorem Bm(W:WalksS prog w A.in1 I fp wr G n P St)(S:Addr)(hSf:S∉fp)(l:List K)(hl:l.length=n)
  (hval:∀i v,P i v->∃k,l[i]?=some k/\knd.is k v=true/\v.scannable=true) (hb:n+1<scanBound) :
  ∀(k i:Nat) (s:HZ),n-i=k->i<=n->St i s ->
   s.heap.SetOf knd S (λk'=>decide (k'∈met (l.take i))) (met (l.take i)).length ->
   (∀s',Moved (S::wr) G s s'->s'.heap.SetOf knd S (λk'=>decide (k'∈met l)) (met l).length->R (.ok (.ret .none)) s') ->
   codeAny (model prog w) A (.builtin "set.update.loop" ⟨[.ref S,.ref I],[]⟩) R s:=by
 have hSw:S∉wr:=λh=>hSf (W.sub _ h);have hsub:∀b∈wr,b∈S::wr:=λb hb=>Hj _ hb;intro k
 induction k with
 |zero=>
  intro i s hk hi hst hS hR;have hin:i=n:=by omega
  subst hin;rw[<- hl,HE]at hS;refine codeAny_builtin F.entry_set_update_loop ?_;rw[Around.under_plainId F.plain_set_update_loop _];show wpAny _ A.in1 (pyNext (.ref I) >>= _) _ _ s;refine wpAny_bind (W.done s _ _ hst λs' hm=>?_);show wpAny _ A.in1 (ret Value.none) _ _ s';refine wpAny_pure (hR s' (hm.mono hsub) ?_);obtain⟨o,es,ep,t,ho,bS⟩:=hS;exact⟨o,es,ep,t,hm.heap S _ hSw ho,bS⟩
 |succ k ih=>
  intro i s hk hi hst hS hR;have hlt:i<n:=by omega
  refine codeAny_builtin F.entry_set_update_loop ?_;rw[Around.under_plainId F.plain_set_update_loop _];show wpAny _ A.in1 (pyNext (.ref I) >>= _) _ _ s;refine wpAny_bind (W.item i s _ _ hlt hst λv s' hP hst' hm=>?_);obtain⟨key,hkey,his,hsc⟩:=hval i v hP;have hS':s'.heap.SetOf knd S (λk'=>decide (k'∈met (l.take i))) (met (l.take i)).length:=by
   obtain⟨o,es,ep,tb,ho,bS⟩:=hS;exact⟨o,es,ep,tb,hm.heap S _ hSw ho,bS⟩
  show wpAny _ A.in1 (holding [v] (setAdd S v) >>= _) _ _ s';refine wpAny_bind (wpAny_holding ?_);unfold setAdd;refine wpAny_holding ?_;refine wpAny_bind (knd.pyHash (k:=key) his ?_);have hroom:(met (l.take i)).length+1<scanBound:=by have:=Af i (l.take i) (by rw[HF];omega);omega
  refine wpAny_setAddHashed_of (knd:=knd) (s:={s' with toks:=s'.toks+1}) his hsc hS' hroom λh' hsb hS2=>?_;have ht:l.take (i+1)=l.take i++[key]:=by rw[List.take_add_one,hkey];rfl
  have hSi:h'.SetOf knd S (λk'=>decide (k'∈met (l.take (i+1)))) (met (l.take (i+1))).length:=
   SetOf_congr hS2 (λk'=>by rw[ht,sO,sP]) (by rw[ht,sO,mx])
  refine wpAny_pure ⟨plainId_quiet F.plain_set_update_loop _,ih (i+1) _ ⋯ hlt (W.frame _ s' _ _ hst' (Nat.le_succ _) λb hb o e=>?_) hSi λs'' hm'' hS''=>?_⟩
  ·rw[hsb.2 b (λh:b=S=>hSf (by rw[<- h];exact hb))];exact e
  ·refine hR s'' (Moved.trans W.gtrans ((hm.mono hsub).then_heap (Nat.le_succ _) λb o hb e=>?_) hm'') hS''
   rw[hsb.2 b (λh:b=S=>hb (by rw[h];exact List.mem_cons_self))];exact e
end
noncomputable def b8(z:Str):List Str:=z.cps.toList.map λc=>(⟨#[c]⟩:Str)
section
variable {prog:Ig}{w:Ij}{A:Ii}{E:HV}{s:HZ}
set_option maxHeartbeats 3200000 in
theorem oU{x:Str}{t:Tok}{Q:HV}(hh:A.handled=none)(hb:x.cps.size+1<scanBound)
  (h:∀(h':Heap) (tk:Nat),h'.SetOf (strKind prog w) s.heap.objs.size (λk'=>decide (k'∈met (b8 x))) (met (b8 x)).length ->
   (∀b o,s.heap.get? b=some o->h'.get? b=some o)->Q (.ref s.heap.objs.size) {s with heap:=h',toks:=tk}) :
  wpAny (model prog w) A (call (.type "set") [.str x t]) Q E s:=by
 obtain⟨c,tl,hmro⟩:=PySem.F.called_set.mro;have hmade:=PySem.F.called_set.made;have hsub:=PySem.F.called_set.sub;refine wpAny_call (codeAny_of_tree ?_);show wpAny _ _ (callAny (.type "set") _) _ _ _;refine wpAny_pure ⟨Code.quiet_builtin _ (by decide +kernel),codeAny_builtin PySem.F.entry_type_call ?_⟩;rw[Around.under_plain (weight_type_call_type "set" [.str x t] []) rfl];have h1:=PySem.F.called_set.notType;have h2:=PySem.F.called_set.canCreate;have hct:=PySem.F.typeCall_set_1 (.str x t)
 repeat (any_goals (first | assumption | wp_step))
 refine codeAny_mono (code_set_new_1 (.str x t) (E:=E) (Q₁:=λobj s₁=>∃led:Bool,obj=.ref s.heap.objs.size/\s₁={s with heap:=s.heap.push {cls:=.type "set",dict:=none,data:=.set #[] 0 (.fresh 0 0 led)} }) λled=>⟨led,rfl,rfl⟩) λr s₁ hr=>?_;cases r with
 |error e=>exact hr
 |ok fl=>
  cases fl with
  |ret obj=>
   obtain⟨led,rfl,rfl⟩:=hr;have hS:(s.heap.push {cls:=.type "set",dict:=none,data:=.set #[] 0 (.fresh 0 0 led)}).get? s.heap.objs.size=some {cls:=.type "set",dict:=none,data:=.set #[] 0 (.fresh 0 0 led)}:=Ha _ rfl;have hT:Shared.TypeIs {s with heap:=s.heap.push {cls:=.type "set",dict:=none,data:=.set #[] 0 (.fresh 0 0 led)} } (.ref s.heap.objs.size) "set":=⟨_,hS,rfl⟩;have hli:=PySem.F.called_set.init.lookup;have hbi:=PySem.F.called_set.init.bind (.ref s.heap.objs.size)
   repeat (any_goals (first | assumption | wp_step))
   refine codeAny_mono (codeAny_call_builtin (R:=wants (λr s₂=>r=.none/\∃h' tk,s₂={s with heap:=h',toks:=tk} /\
     h'.SetOf (strKind prog w) s.heap.objs.size (λk'=>decide (k'∈met (b8 x))) (met (b8 x)).length /\
     (∀b o,s.heap.get? b=some o->h'.get? b=some o)) E) PySem.F.called_set.init.plain PySem.F.entry_set_init (check_set_init_1 hT ?_)) λr₂ s₂ hr₂=>?_
   ·have hsls:=PySem.F.sub_str_set
    have hslf:=PySem.F.sub_str_frozenset;have hne:(Value.type "str" == Value.type "dict")=false:=by decide
    unfold Builtin.«set.__init__» noKeywords Builtin.Frozenset.updateFrom;generalize hPI:pyIter=PI
    wp_walk
    subst hPI;refine wpAny_pyIter_str λo St W hst=>?_;refine wpAny_bind (wpAny_runValue ?_);have hSf:s.heap.objs.size∉[(s.heap.push {cls:=.type "set",dict:=none,data:=.set #[] 0 (.fresh 0 0 led)}).objs.size]:=by
     rw[Heap.size_push];simp only[G8]
     exact Hm (HA _)
    refine Bm (knd:=strKind prog w) ((W _ (by simp[hh])).toS) s.heap.objs.size hSf (b8 x) (by simp[b8])
     (λi v ⟨c,u,hc,hv⟩=>⟨⟨#[c]⟩,by unfold b8;rw[G9,Array.getElem?_toList,hc];rfl,by rw[hv];exact strKind_is _ _ _ _,by rw[hv];rfl⟩) hb (x.cps.size-0) 0 _ ⋯ (Hs _) hst ?hS0 ?hR
    case hS0=>
     exact SetOf_congr ((setObjOf_fresh (knd:=strKind prog w) led).setOf (G6 _ hS) (by unfold scanBound;omega)) (λ_=>rfl) rfl
    case hR=>
     intro s' hm hS';obtain⟨h',g',d',tk',os'⟩:=s';have eg:g'=s.gens:=hm.gens;have ed:d'=s.drawn:=hm.drawn;have eo:os'=s.os:=hm.os;subst eg;subst ed;subst eo
     show wpAny _ _ _ _ _ _;refine wpAny_pure ?_;show wpAny _ _ (ret Value.none) _ _ _;refine wpAny_pure ⟨rfl,h',tk',rfl,hS',λb o' e=>?_⟩;have hb:=Hu e;refine hm.heap b o' ?_ (G6 _ (G6 _ e));simp only[Hi,List.not_mem_nil,or_false,not_or,Heap.size_push];exact⟨Hm hb,Hm (Nat.lt_succ_of_lt hb)⟩
   ·cases r₂ with
    |error e=>exact hr₂
    |ok fl₂=>
     cases fl₂ with
     |ret r=>
      obtain⟨rfl,h',tk,rfl,hS',hk'⟩:=hr₂
      repeat (any_goals (first | assumption | wp_step))
      exact h _ _ hS' hk'
     |_=>exact hr₂.elim
  |_=>exact hr.elim
end
noncomputable def qN(t:TE):TE:=λσ H Q=>t σ H λx H1=>∃z,x=.str z/\z.cps.size+1<scanBound/\Q (.int (met (b8 z)).length) H1
section
variable {X:Cx}{e:Expr}{t:TE}{p p2 pos pos2:Pos}
theorem yl(hc:X.calm=true)(ha:PE X e t)(g1:Gl X "len")(m1:X.mg "len"=none)(g2:Gl X "set")(m2:X.mg "set"=none)
  (he1:autoParam (starEach [.Call (.Name "set" p2) [e] [] pos2] X.env=[(false,eval (.Call (.Name "set" p2) [e] [] pos2) X.env)]) zz0._auto_1)
  (he2:autoParam (starEach [e] X.env=[(false,eval e X.env)]) zz0._auto_1) :
  PE X (.Call (.Name "len" p) [.Call (.Name "set" p2) [e] [] pos2] [] pos) (qN t):=by
 intro pins s σ H Q I h;have hl:bootBuiltins "len"=some (.builtin "len"):=by decide +kernel
 have hs:bootBuiltins "set"=some (.type "set"):=by decide +kernel
 refine wpAny_Call_Name_kw (dL I g1 m1 hl ?_);refine PyProof.Rows.callWith_builtin1 ?_ he1 rfl;rw[he1];show wpAny _ _ (spliced [(false,eval (.Call (.Name "set" p2) [e] [] pos2) X.env)]) _ _ _;refine Calls.spliced_cons ?_;refine wpAny_Call_Name_kw (dL (I.tok _) g2 m2 hs ?_);refine PyProof.Rows.callWith_type1 ?_ he2 rfl;rw[he2];show wpAny _ _ (spliced [(false,eval e X.env)]) _ _ _;refine Calls.spliced_cons (bK (ha pins _ σ H _ (I.tok _) h) λu s1 ⟨x,H1,I1,rx,z,ex,hz,q⟩=>Calls.spliced_nil ?_);subst ex;obtain⟨tk,rfl⟩:=rx;refine oU (I.ok.hd hc) hz λh' tk' hS hk=>Calls.spliced_nil ?_;obtain⟨o,ho,hex,es,ep,tb,hd,_,_,hn,hf⟩:=hS.objOf;have hle:=Af z.cps.size (b8 z) (by simp[b8]);have hb:z.cps.size<4096:=by unfold scanBound at hz;omega
 refine call_len_set ho hex hd hf (by rw[hn];have:((4096:Nat):Int)<2^63:=nofun;omega) ?_;rw[hn];exact⟨.int _,H1,(I1.kept (t':=_) hk),⟨_,rfl⟩,q⟩
end
noncomputable abbrev NT:=List (Str×Addr×List Nat)
noncomputable def uv(t:NT):List (cE×V):=t.map λx=>(Sum.inr x.1,V.ref x.2.1)
noncomputable def uw(ns:HY):List V:=ns.map fun(n:Nat)=>V.int (n:Int)
structure cJ(H:Hp)(p:Addr)(t:NT):Prop where
 dict:H p=some (.dK (uv t))
 list:∀x∈t,H x.2.1=some (.lst (uw x.2.2))
 apart:(t.map (·.2.1)).Nodup
theorem cJ.grow{H H':Hp}{p:Addr}{t:NT}(N:cJ H p t)(k:∀a o,H a=some o->H' a=some o):cJ H' p t:=⟨k _ _ N.dict,λx hx=>k _ _ (N.list x hx),N.apart⟩
theorem vo(z:Str):∀t:NT,bO (uv t) (.inr z)=(t.find? λx=>decide (x.1=z)).map λx=>V.ref x.2.1
 | []=>rfl
 |x::t=>by
  have ih:=vo z t;unfold uv at ih ⊢;rw[Hx,List.find?_cons]
  by_cases e:x.1=z
  ·rw[cu (by rw[e])];simp[e]
  ·rw[cv (λh=>e (Sum.inr.inj h)),ih];simp[e]
theorem cJ.new{H:Hp}{p l:Addr}{t:NT}{z:Str}(N:cJ H p t)(hl:H l=none)(hz:bO (uv t) (.inr z)=none) :
  cJ (au (au H l (.lst [])) p (.dK (cn (uv t) (.inr z) (.ref l)))) p (t++[(z,l,[])]):=by
 have hpl:p≠l:=λe=>by have:=N.dict;rw[e,hl]at this;exact nomatch this
 have hx:∀x∈t,x.2.1≠l/\x.2.1≠p:=λx hx=>by
  have q:=N.list x hx
  constructor
  ·intro e;rw[e,hl]at q;exact nomatch q
  ·intro e;rw[e,N.dict]at q;exact nomatch q
 refine⟨?_,λx h=>?_,?_⟩
 ·rw[ac,nL _ hz];unfold uv;rw[Hf];rfl
 ·rcases Hg.mp h with h | h
  ·rw[ao (hx x h).2,ao (hx x h).1];exact N.list x h
  ·rw[G8.mp h,ao (Ne.symm hpl),ac];rfl
 ·rw[Hf]
  refine List.nodup_append.mpr ⟨N.apart,by simp,λa ha b hb=>?_⟩;obtain⟨x,h1,rfl⟩:=HJ.mp ha;rw[List.map_singleton]at hb;rw[G8.mp hb];exact(hx x h1).1
theorem cJ.put{H:Hp}{p:Addr}{t:NT}{i k:Nat}{x:Str×Addr×List Nat}(N:cJ H p t)(hi:t[i]?=some x) :
  cJ (au H x.2.1 (.lst (uw (x.2.2++[k])))) p (t.set i (x.1,x.2.1,x.2.2++[k])):=by
 have hm:x∈t:=G_ hi;have hp:p≠x.2.1:=λe=>by have:=N.list x hm;rw[<- e,N.dict]at this;exact nomatch this
 have hlt:i<t.length:=(G5.mp hi).1;have hk:uv (t.set i (x.1,x.2.1,x.2.2++[k]))=uv t:=by
  unfold uv;apply List.ext_getElem?;intro j;rw[G9,G9,List.getElem?_set]
  by_cases e:i=j
  ·subst e;rw[if_pos rfl,if_pos hlt,hi];rfl
  ·rw[if_neg e]
 have ha:(t.set i (x.1,x.2.1,x.2.2++[k])).map (·.2.1)=t.map (·.2.1):=by
  apply List.ext_getElem?;intro j;rw[G9,G9,List.getElem?_set]
  by_cases e:i=j
  ·subst e;rw[if_pos rfl,if_pos hlt,hi];rfl
  ·rw[if_neg e]
 refine⟨by rw[ao hp,hk];exact N.dict,λy hy=>?_,by rw[ha];exact N.apart⟩;obtain⟨j,hj⟩:=List.mem_iff_getElem?.mp hy;rw[List.getElem?_set]at hj
 by_cases e:i=j
 ·rw[if_pos e,if_pos hlt]at hj
  cases hj;exact ac
 ·rw[if_neg e]at hj
  have hne:y.2.1≠x.2.1:=by
   intro q;have h1:(t.map (·.2.1))[i]?=some x.2.1:=by rw[G9,hi];rfl
   have h2:(t.map (·.2.1))[j]?=some x.2.1:=by rw[G9,hj];simp[q]
   exact e ((List.getElem?_inj (G5.mp h1).1 N.apart).mp (h1.trans h2.symm))
  rw[ao hne];exact N.list y (G_ hj)
noncomputable def jc(t:NT):List (Str×List Nat):=t.map λx=>(x.1,x.2.2)
noncomputable def bH(m:List (Str×List Nat))(z:Str):List (Str×List Nat):=if z∈m.map (·.1) then m else m++[(z,[])]
theorem Ay{t:NT}{z:Str}{v:V}(h:bO (uv t) (.inr z)=some v):∃(i:Nat) (x:Str×Addr×List Nat),t[i]?=some x/\x.1=z/\v=.ref x.2.1:=by
 rw[vo]at h;cases hf:t.find? (λx=>decide (x.1=z)) with
 |none=>rw[hf]at h;exact nomatch h
 |some x=>
  rw[hf]at h;have hv:V.ref x.2.1=v:=Option.some.inj h;obtain⟨i,hi⟩:=List.mem_iff_getElem?.mp (List.mem_of_find?_eq_some hf);have hz:=List.find?_some hf;exact⟨i,x,hi,of_decide_eq_true hz,hv.symm⟩
theorem wu(t:NT):(jc t).map (·.1)=t.map (·.1):=by unfold jc;rw[Hh];rfl
theorem C5{t:NT}{z:Str}(h:bO (uv t) (.inr z)=none):¬ z∈(jc t).map (·.1):=by
 intro m;rw[wu]at m;obtain⟨x,hx,e⟩:=HJ.mp m;refine sY h (HJ.mpr ⟨(.inr x.1,.ref x.2.1),HJ.mpr ⟨x,hx,rfl⟩,?_⟩);show(Sum.inr x.1:cE)=Sum.inr z;rw[e]
theorem cJ.setdef{H:Hp}{p l:Addr}{t:NT}{z:Str}{Q:VK}(N:cJ H p t)(hl:H l=none)(hn:t.length<sizeLine)
  (h:∀(H':Hp) (t':NT) (i:Nat) (x:Str×Addr×List Nat),cJ H' p t'->t'[i]?=some x->x.1=z->jc t'=bH (jc t) z->(∀y∈t',y∈t\/y.2.1=l)->(∀a o,a≠p->H a=some o->H' a=some o)->Q (.ref x.2.1) H') :
  ∃kvs k,au H l (.lst []) p=some (.dK kvs)/\V.str z=kV k/\kvs.length<sizeLine/\(∀v,bO kvs k=some v->Q v (au H l (.lst []))) /\
   (bO kvs k=none->Q (.ref l) (au (au H l (.lst [])) p (.dK (cn kvs k (.ref l))))):=by
 have hpl:p≠l:=λe=>by have:=N.dict;rw[e,hl]at this;exact nomatch this
 have gr:∀a o,H a=some o->au H l (.lst []) a=some o:=λa o e=>by
  rw[ao (λq=>by rw[q,hl]at e;exact nomatch e)];exact e
 refine⟨uv t,.inr z,gr _ _ N.dict,rfl,by unfold uv;rw[G7];exact hn,λv hv=>?_,λhz=>?_⟩
 ·obtain⟨i,x,hi,hx,rfl⟩:=Ay hv
  refine h _ t i x (N.grow gr) hi hx ?_ (λy hy=>.inl hy) λa o _ e=>gr a o e;have hm:z∈(jc t).map (·.1):=by rw[wu];exact HJ.mpr ⟨x,G_ hi,hx⟩
  unfold bH;rw[if_pos hm]
 ·refine h _ (t++[(z,l,[])]) t.length (z,l,[]) (N.new hl hz) (by simp) rfl ?_ (λy hy=>(Hg.mp hy).imp id λq=>by rw[G8.mp q]) λa o ha e=>by rw[ao ha];exact gr a o e
  unfold bH;rw[if_neg (C5 hz)];unfold jc;rw[Hf];rfl
theorem BP{t:NT}{i:Nat}{x:Str×Addr×List Nat}(k:Nat):jc (t.set i (x.1,x.2.1,x.2.2++[k]))=(jc t).set i (x.1,x.2.2++[k]):=by
 unfold jc;rw[List.map_set]
theorem lx{m:List (Str×List Nat)}{z:Str}(h:(m.map (·.1)).Nodup):((bH m z).map (·.1)).Nodup:=by
 unfold bH
 by_cases e:z∈m.map (·.1)
 ·rw[if_pos e];exact h
 ·rw[if_neg e,Hf]
  refine List.nodup_append.mpr ⟨h,by simp,λa ha b hb=>?_⟩;rw[List.map_singleton]at hb;rw[G8.mp hb];exact λq=>e ((show a=z from q)▸ha)
section
variable {X:Cx}{K:HW}{tg:Expr}
end
end L2
namespace QL
open PySem PySem.Spec PyProof.Rows
theorem CO:bootBuiltins "max"=some (.builtin "max"):=by decide +kernel
end QL
namespace L2
open PySem PySem.Spec PyProof.Rows
section
variable {X:Cx}{CX:j9}{k:Nat}{C:Addr}{ps:Ih}{sp:Sp}{x:Str}{p pos:Pos}{e:Expr}{es:Il}{t:TA}
end
section
variable {X:Cx}{e:Expr}{tx:TX}{i:Nat}{n x:Str}{D:Addr}{bmD:Ia}{nD:String}{b₀:Stmt}{suite:List Stmt}{epos pos hpos np:Pos}{ts:Addr->TS}
end
section
variable {X:Cx}{CX:j9}{k:Nat}{C:Addr}{ps:Ih}{sp:Sp}{m:Str}{pos apos:Pos}{e o:Expr}{es:Il}{t:TA}{ta:TE}
end
section
variable {X:Cx}
end
end L2
namespace CtM
open PySem PySem.Builtin PySem.Builtin.Str QL SpM
end CtM
namespace L2
open PySem PySem.Spec PyProof.Rows QL
section
variable {K:HW}{g:TG}{ti:TT}{te:TE}{σ:St}{H:Hp}{Q:List V->Hp->Prop}{α:Type}
theorem mS{as:List α}{f:α->Option V}{i:Nat}{x:α}(hx:as[i]?=some x):(as.take (i+1)).filterMap f=(as.take i).filterMap f++(f x).toList:=by
 rw[List.take_add_one,hx,List.filterMap_append];show _++List.filterMap f [x]=_;cases h:f x<;>simp[h]
theorem AH{as:List α}{f:α->Option V}(i:Nat):((as.take i).filterMap f).length<=as.length:=Hy (List.length_filterMap_le _ _) (by rw[HF];omega)
theorem lj{as:List α}(f:α->V):as.filterMap (λx=>some (f x))=as.map f:=by induction as with | nil=>rfl | cons x xs ih=>simp
theorem dJ{a:Addr}{as:List α}{emb:α->V}{f:α->Option V}(S:St->Prop)(h0:S σ)(hl:∀H',az H H'->aN K H' a (as.map emb))(hn:as.length<=1000000)
  (hs:∀(i:Nat) x,as[i]?=some x->∀σ H' (N1:V->St->Hp->Prop) (N0:St->Hp->Prop),S σ->az H H'->(∀v σ2 H2,f x=some v->az H H2->S σ2->N1 v σ2 H2)->(∀σ2 H2,f x=none->az H H2->S σ2->N0 σ2 H2) ->
   g (emb x) σ H' λσ2 H3=>ti σ2 H3 λb H4=>if b=true then te σ2 H4 λv H5=>N1 v σ2 H5 else N0 σ2 H4)
  (he:∀H',az H H'->Q (as.filterMap f) H'):gZ (zz K a) g ti te σ H Q:=by
 refine lO (xs:=as.map emb) (λi acc σ H'=>az H H'/\acc=(as.take i).filterMap f/\i<=as.length/\S σ) ⟨λ_ _ e=>e,rfl,Hs _,h0⟩ ?_ ?_ ?_ ?_ ?_
 ·rintro i acc σ H' ⟨_,rfl,_⟩
  have:=AH (as:=as) (f:=f) i;exact bb ⋯
 ·rintro i acc σ H' ⟨_,_,h,_⟩
  rw[G7];exact h
 ·rintro i acc σ H' ⟨sm,_⟩
  exact hl _ sm
 ·rintro i x acc σ H' hx ⟨sm,rfl,hi,hS⟩
  have hlt:i<as.length:=by have:=(G5.mp hx).1;rwa [G7]at this
  rw[G9,G4 hlt]at hx;cases hx;have hg:as[i]?=some as[i]:=G4 hlt;refine hs i as[i] hg σ H' (λv σ2 H5=>_) (λσ2 H4=>_) hS sm (λv σ2 H2 hf s2 hS2=>⟨s2,?_,hlt,hS2⟩) (λσ2 H2 hf s2 hS2=>⟨s2,?_,hlt,hS2⟩)
  ·rw[mS hg,hf];rfl
  ·rw[mS hg,hf];simp
 ·rintro acc σ H' ⟨sm,rfl,_⟩
  have e:(as.take (as.map emb).length).filterMap f=as.filterMap f:=by rw[G7,HE]
  rw[e];exact he _ sm
theorem uA{a:Addr}{as:List α}{emb:α->V}{f:Nat->α->Option V}(S:St->Prop)(h0:S σ)(hl:∀H',az H H'->aN K H' a (as.map emb))(hn:as.length<=1000000)
  (hs:∀(i:Nat) x,as[i]?=some x->∀σ H' T (N1:V->St->Hp->Prop) (N0:St->Hp->Prop),S σ->az H H'->H' T=none->(∀v σ2 H2,f i x=some v->az H H2->S σ2->N1 v σ2 H2)->(∀σ2 H2,f i x=none->az H H2->S σ2->N0 σ2 H2) ->
   g (.ref T) σ (au H' T (.tup [.int (i:Int),emb x])) λσ2 H3=>ti σ2 H3 λb H4=>if b=true then te σ2 H4 λv H5=>N1 v σ2 H5 else N0 σ2 H4)
  (he:∀H',az H H'->Q (as.zipIdx.filterMap λx=>f x.2 x.1) H'):gZ (DG K a) g ti te σ H Q:=by
 have hzl:as.zipIdx.length=as.length:=List.length_zipIdx;refine jH (J:=DG K a) (n:=as.length) (λi acc σ H'=>az H H'/\acc=(as.zipIdx.take i).filterMap (λx=>f x.2 x.1)/\i<=as.length/\S σ) ⟨λ_ _ e=>e,rfl,Hs _,h0⟩ ?_ ?_ ?_ ?_ ?_ ?_
 ·rintro i acc σ H' ⟨_,rfl,_⟩
  have:=AH (as:=as.zipIdx) (f:=λx=>f x.2 x.1) i;exact bb ⋯
 ·rintro i acc σ H' ⟨_,_,h,_⟩
  exact h
 ·rintro acc σ H' ⟨sm,_⟩
  exact⟨_,hl _ sm,by rw[G7];exact Hr _⟩
 ·rintro i acc σ H' hlt ⟨sm,_⟩
  exact⟨_,emb as[i],hl _ sm,by rw[G9,G4 hlt];rfl⟩
 ·rintro i x acc σ H' H2 hlt ⟨sm,rfl,hi,hS⟩ ⟨T,y,rfl,hT,rfl,hy⟩
  have hg:as[i]?=some as[i]:=G4 hlt;have hy:=hy _ (hl _ sm);rw[G9,hg]at hy;cases hy;have hz:as.zipIdx[i]?=some (as[i],i):=by rw[List.getElem?_zipIdx,hg];simp
  refine hs i as[i] hg σ H' T (λv σ2 H5=>_) (λσ2 H4=>_) hS sm hT (λv σ2 H2 hf s2 hS2=>⟨s2,?_,hlt,hS2⟩) (λσ2 H2 hf s2 hS2=>⟨s2,?_,hlt,hS2⟩)
  ·rw[mS hz];simp only[hf];rfl
  ·rw[mS hz];simp[hf]
 ·rintro acc σ H' ⟨sm,rfl,_⟩
  have e:(as.zipIdx.take as.length).filterMap (λx=>f x.2 x.1)=as.zipIdx.filterMap (λx=>f x.2 x.1):=by rw[<- hzl,HE]
  rw[e];exact he _ sm
theorem sZ{n:Nat}{f:Nat->Option V}(S:St->Prop)(h0:S σ)(hn:n<=1000000)
  (hs:∀i,i<n->∀σ H' (N1:V->St->Hp->Prop) (N0:St->Hp->Prop),S σ->az H H'->(∀v σ2 H2,f i=some v->az H H2->S σ2->N1 v σ2 H2)->(∀σ2 H2,f i=none->az H H2->S σ2->N0 σ2 H2) ->
   g (.int (0+(i:Int))) σ H' λσ2 H3=>ti σ2 H3 λb H4=>if b=true then te σ2 H4 λv H5=>N1 v σ2 H5 else N0 σ2 H4)
  (he:∀H',az H H'->Q ((List.range n).filterMap f) H'):gZ (zd 0 n) g ti te σ H Q:=by
 refine fb (lo:=0) (n:=n) (λi acc σ H'=>az H H'/\acc=(List.range i).filterMap f/\i<=n/\S σ) ⟨λ_ _ e=>e,rfl,Hs _,h0⟩ ?_ ?_ ?_ ?_
 ·rintro i acc σ H' ⟨_,rfl,hi,_⟩
  have:=List.length_filterMap_le f (List.range i);rw[List.length_range]at this;exact bb ⋯
 ·rintro i acc σ H' ⟨_,_,h,_⟩
  exact h
 ·rintro i acc σ H' hi ⟨sm,rfl,_,hS⟩
  refine hs i hi σ H' (λv σ2 H5=>_) (λσ2 H4=>_) hS sm (λv σ2 H2 hf s2 hS2=>⟨s2,?_,hi,hS2⟩) (λσ2 H2 hf s2 hS2=>⟨s2,?_,hi,hS2⟩)
  ·rw[List.range_succ,List.filterMap_append];simp[hf]
  ·rw[List.range_succ,List.filterMap_append];simp[hf]
 ·rintro acc σ H' ⟨sm,rfl,_⟩
  exact he _ sm
end
section
variable {X:Cx}
end
end L2
namespace ThM
open PySem L2
noncomputable def dE(ks:Ih)(z:Str):List Str:=if z∈ks then ks else ks++[z]
theorem mem_addNew{ks:Ih}{z y:Str}:y∈dE ks z↔y∈ks\/y=z:=by
 unfold dE
 split
 ·rename_i h
  exact⟨.inl,λq=>q.elim id λe=>e▸h⟩
 ·rw[Hg,G8]
section
variable {α:Type}(f:List α->List α)
noncomputable def Et:Nat->List α->List α
 |0,s=>s
 |n+1,s=>f (Et n s)
variable {f}
end
noncomputable abbrev NR:=Str×List Str
noncomputable def Bq(ks:Ih)(r:NR):List Str:=if(∀z∈r.2,z∈ks) then dE ks r.1 else ks
noncomputable def AG(rs:List NR)(ks:Ih):List Str:=rs.foldl Bq ks
theorem nd_len{ks ms:Ih}(hn:ks.Nodup)(h:∀z∈ks,z∈ms):ks.length<=ms.length:=by
 induction ks generalizing ms with
 |nil=>exact Hs _
 |cons k ks ih=>
  rw[List.nodup_cons]at hn;have hk:=h k List.mem_cons_self;have h1:=ih (ms:=ms.erase k) hn.2 λz hz=>by
   have hne:z≠k:=λe=>hn.1 (e▸hz);exact(List.mem_erase_of_ne hne).mpr (h z (Hj _ hz))
  have h2:=List.length_erase_of_mem hk;have h3:=List.length_pos_of_mem hk;rw[He];omega
noncomputable def C8(rs:List NR):List Str:=Et (AG rs) rs.length []
end ThM
namespace L2
open PySem PySem.Spec PyProof.Rows QL
section
variable {X:Cx}
end
end L2
namespace ThM
open PySem L2
section
variable {α:Type}{f:List α->List α}(μ:List α->Nat)
end
theorem kT{y:Str}:∀(zs ks:Ih),y∈zs.foldl dE ks↔y∈ks\/y∈zs
 | [],ks=>by simp
 |z::zs,ks=>by
  rw[List.foldl_cons,kT zs,mem_addNew,Hi];exact⟨λh=>h.elim (λh=>h.elim .inl λe=>.inr (.inl e)) λh=>.inr (.inr h),λh=>h.elim (λh=>.inl (.inl h)) λh=>h.elim (λe=>.inl (.inr e)) .inr⟩
noncomputable def zT(ks:Ih)(r:NR):List Str:=if r.1∈ks then r.2.foldl dE ks else ks
noncomputable def yg(rs:List NR)(ks:Ih):List Str:=rs.foldl zT ks
def DM(ks:Ih)(r:NR):Prop:=r.1∈ks/\∀z∈r.2,z∈ks
instance (ks:Ih)(r:NR):Decidable (DM ks r):=by unfold DM;infer_instance
noncomputable def Ca(st:Str)(rs:List NR):List Str:=Et (yg rs) rs.length [st]
noncomputable def BY(rs:List NR)(r:NR):Bool:=decide (∀z∈r.2,z∈C8 rs)
noncomputable def D3(rs:List NR):List NR:=rs.filter (BY rs)
noncomputable def Eg(st:Str)(rs:List NR):List Str:=Ca st (D3 rs)
noncomputable def keep(st:Str)(rs:List NR)(r:NR):Bool:=decide (r.1∈Eg st rs)&&BY rs r
end ThM
namespace L2
open PySem PySem.Spec PyProof.Rows
section
variable {X:Cx}{body:List Stmt}{h₀:ExceptHandler}{hs:List ExceptHandler}{tb:TS}{pos:Pos}
theorem zl{es' es:Il}{x1:Nat}{p:Pos}{te:TE}{t:TA}(ha:PE X (.Tuple es' x1 p) te)(hr:PA X es t):PA X (.Tuple es' x1 p::es) (j' te t):=aa ha hr rfl
noncomputable def iV(xs ys:List V):Bool:=(List.range (min xs.length ys.length)).all (λj=>match xs[j]?,ys[j]? with | some x,some y=>uL x y | _,_=>true)&&xs.length==ys.length
noncomputable def BG(K:HW):R2:=λx y H Q=>∃a b xs ys,x=.ref a/\y=.ref b/\bx K H a xs/\bx K H b ys/\xs.all ur=true/\ys.all ur=true/\Q (.bl (iV xs ys)) H
theorem zq(hu:X.A.units+64<cLine):aW X (compareOp .Eq) (BG X.K):=by
 intro pins s σ H x y v u Q I rx ry h;obtain⟨a,b,xs,ys,rfl,rfl,ha,hb,fx,fy,q⟩:=h;cases rx;cases ry
 obtain⟨its,ra,pa,_⟩:=I.tuple ha;obtain⟨its2,rb,pb,_⟩:=I.tuple hb;have l1:=ra.length;have l2:=rb.length
 have q':=SeqAt.RcAt.tuples (A:=X.A) (s:=s) (e:=λj=>match xs[j]?,ys[j]? with | some x,some y=>uL x y | _,_=>true) (show s.heap.IsTuple a its.toArray from pa) (show s.heap.IsTuple b its2.toArray from pb) ⋯ (λj g1 g2=>by
  have g1':j<its.length:=by simpa using g1
  have g2':j<its2.length:=by simpa using g2
  have x1:xs[j]?=some xs[j]:=G4 ⋯;have y1:ys[j]?=some ys[j]:=G4 ⋯;obtain⟨w1,f1,rr1⟩:=ra.get x1;obtain⟨w2,f2,rr2⟩:=rb.get y1;rw[G4 g1']at f1;rw[G4 g2']at f2;cases f1;cases f2
  simp only[HM,x1,y1];exact gu rr1 rr2 (HK.mp fx _ (G_ x1)) (HK.mp fy _ (G_ y1)))
 refine q' _ _ _ _ ⟨.bl _,H,I,rfl,?_⟩;rw[Hb,Hb,<- l1,<- l2];exact q
end
section
variable {X:Cx}{es:Il}{t:TA}{te:TE}
structure WA(X:Cx)(es:Il)(t:TA):Prop where
 out:PA X es t
structure WE(X:Cx)(e:Expr)(t:TE):Prop where
 out:PE X e t
structure WB(X:Cx)(b:List Stmt)(t:TS):Prop where
 out:ut X b t
theorem rH:WA X [] oZ:=⟨ad⟩
theorem qW{x:Int}{j:Nat}{p:Pos}(hr:WA X es t):WA X (.Constant (.int x) j p::es) (j' (tC (.int x)) t):=⟨bc hr.out⟩
theorem CZ{es':Il}{x1:Nat}{p:Pos}(ha:WE X (.Tuple es' x1 p) te)(hr:WA X es t):WA X (.Tuple es' x1 p::es) (j' te t):=⟨zl ha.out hr.out⟩
theorem vj{x1:Nat}{p:Pos}(h:WA X es t):WE X (.Tuple es x1 p) (BQ t):=⟨aY h.out⟩
theorem Da{p:Pos}(h:WA X es t):WE X (.List es p) (ze t):=⟨bq h.out⟩
structure WS(X:Cx)(s:Stmt)(t:TS):Prop where
 out:PS X s t
theorem BB{st:Stmt}{bS:List Stmt}{u v:TS}(h1:WS X st u)(h2:ut X bS v):WB X (st::bS) (vn u v):=⟨ae h1.out h2⟩
end
end L2
namespace L2
open PySem PySem.Spec PyProof.Rows QL
section
variable {X:Cx}
end
end L2
namespace PySem
open PySem.Calls PyProof.Rows
section
variable {prog:Ig}{w:Ij}{A:Ii}{E:HV}{env:Env}
variable {nm q:Str}{C N:Addr}{bs bm:Ia}{hdct:Bool}{sn:Ih}{sub:Ia}{ab:Bool}{col:Option Bool}{dd:Ik}{k0 k1 k2 k3 k5:Option Value}{newId:String}
variable {bmB bmN:Ia}{B Bn nid initId inN:String}{K:HW}
end
section
variable {cp:Value->Prop}{M:Model}{A:Ii}{E:HV}{s:HZ}{base:Heap}{env:Env}{outer:List Env}{L e:Addr}{Q:Unit->Shared->Prop}
end
end PySem
namespace L2
open PySem PySem.Spec PyProof.Rows
section
variable {P:Ig}{w:Ij}{K:HW}{mg:Ic}{base:Heap}{N:Ih}{qual:Str}{scope:Scope}{f:Addr}{cd:Value}{A:Ii}{outer:List Env}{s:HZ}{H:Hp}{E E1:XK}{CX:j9}
end
section
variable {X:Cx}{e e₀:Expr}{bS:Il}{tx:TX}{t:TA}{x y:Str}{C D:Addr}{bmD:Ia}{nD:String}{rpos pos pos2 hpos np np2 cpos npos:Pos}{kd:Nat}{E:XK}
end
end L2
namespace PySem
open PySem.Calls PyProof.Rows
section
variable {prog:Ig}{w:Ij}{A:Ii}{E:HV}{env:Env}
variable {nm q:Str}{C N:Addr}{bs bm bmB bmN:Ia}{hdct:Bool}{sn:Ih}{sub:Ia}{ab:Bool}{col:Option Bool}{dd:Ik}{k0 k1 k2 k3 k5:Option Value}{newId B Bn nid initId inN:String}{K:HW}
end
end PySem
namespace L2
open PySem PySem.Spec PyProof.Rows
section
variable {P:Ig}{w:Ij}{K:HW}{mg:Ic}{base:Heap}{N:Ih}{qual:Str}{scope:Scope}{f:Addr}{cd:Value}{A:Ii}{outer:List Env}{s:HZ}{H:Hp}{E E1:XK}
end
structure DF(k:Nat)(A:Ii):Prop where
 dp:A.depth+3*k+5<recursionLimit
 un:A.units+16*k+200<cLine
structure DO(P:Ig)(w:Ij)(K:HW)(mg:Ic)(base:Heap)(CX:j9)(k:Nat)(f:Addr)(fd:Ie)(ps:Ih)(sp:Sp):Prop where
 len:∀vs H Q E,sp vs H Q E->vs.length=ps.length
 run:∀(A:Ii) (outer:List Env) (s:HZ) (H:Hp) (args:Args) (us:Ia) (vs:List V) (Q:VK) (E:XK),DF k A->tD P w K mg base A outer s H->BindsTo s fd args (ps.zip us)->aT vs us->sp vs H Q E ->
  codeAny (model P w) A (.call (.ref f) args) (CR CX outer P w H s Q E) s
structure GY(P:Ig)(w:Ij)(K:HW)(mg:Ic)(base:Heap)(k:Nat)(C:Addr)(fn:Str):Prop where
 ex:∃(bm bmN:Ia) (newId Bn inN B nid initId:String) (fI:Addr) (fd:Ie) (ps:Ih),zb K C bm newId/\ExcBaseFacts Bn newId inN bmN/\bm.contains (.type Bn)=true/\ExcBaseFacts B nid initId bm /\
  PySem.W.findIn K (.ref C) "__init__"=some (some (.ref fI))/\PySem.W.typeIn K (.ref fI)=some (.type "function")/\DO P w K mg base bF k fI fd ps (mU C fn)/\cV K fd ps []
section
variable {X:Cx}{e e₀:Expr}{tx:TX}{t:TA}{x y:Str}{C D:Addr}{fn:Str}{k:Nat}{bmD:Ia}{nD:String}{rpos pos pos2 hpos np np2 cpos npos:Pos}{kd:Nat}{E:XK}
end
end L2
namespace PySem
section
variable {cp:Value->Prop}{M:Model}{A:Ii}{E:HV}{s:HZ}{base:Heap}{env:Env}{outer:List Env}{L e:Addr}{Q:Unit->Shared->Prop}
end
end PySem
namespace L2
open PySem PySem.Spec PyProof.Rows
section
variable {P:Ig}{w:Ij}{K:HW}{mg:Ic}{base:Heap}{N:Ih}{qual:Str}{scope:Scope}{f:Addr}{cd:Value}{A:Ii}{outer:List Env}{s:HZ}{H:Hp}{E E1:XK}
end
section
variable {X:Cx}
end
section
variable {P:Ig}{w:Ij}{K:HW}{mg:Ic}{base:Heap}{N:Ih}{qual:Str}{scope:Scope}{f:Addr}{cd:Value}{A:Ii}{outer:List Env}{s:HZ}{H:Hp}{E E1:XK}
end
open QL
section
variable {X:Cx}
end
section
variable {prog:Ig}{w:Ij}{A:Ii}{E:HV}{s:HZ}
end
section
variable {X:Cx}{e:Expr}{t:TE}{p p2 pos pos2:Pos}
end
end L2
namespace L2
open PySem PySem.Spec PyProof.Rows QL
section
variable {X:Cx}
theorem cF.units210{k:Nat}{A:Ii}(r:cF (k+1) A):A.units+210<cLine:=by have:=r.un;omega
end
section
variable {K:HW}{g:TG}{tb:TS}{D:iJ}{σ:St}{H:Hp}
end
def v7(H H':Hp):Prop:=∀b xs,H b=some (.tup xs)->H' b=some (.tup xs)
theorem v7.of{H H':Hp}(s:az H H'):v7 H H':=λb xs h=>s b _ h
mutual
noncomputable def cO(H:Hp):Dt->V->Prop
 | .int i,v=>v=.int i
 | .tup ds,v=>∃a xs,v=.ref a/\H a=some (.tup xs)/\bC H ds xs
 |_,_=>False
noncomputable def bC(H:Hp):List Dt->List V->Prop
 | [],xs=>xs=[]
 |d::ds,xs=>∃x r,xs=x::r/\cO H d x/\bC H ds r
end
mutual
theorem cO.up{H H':Hp}(e:v7 H H'):∀(d:Dt) {v:V},cO H d v->cO H' d v
 | .int i,v,h=>by unfold cO at h ⊢;exact h
 | .tup ds,v,h=>by unfold cO at h ⊢;obtain⟨a,xs,r,hs,hd⟩:=h;exact⟨a,xs,r,e _ _ hs,bC.up e ds hd⟩
 | .non,v,h=>by unfold cO at h;exact h.elim
 | .bl b,v,h=>by unfold cO at h;exact h.elim
 | .str x,v,h=>by unfold cO at h;exact h.elim
 | .lst ds,v,h=>by unfold cO at h;exact h.elim
theorem bC.up{H H':Hp}(e:v7 H H'):∀(ds:List Dt) {xs:List V},bC H ds xs->bC H' ds xs
 | [],xs,h=>by unfold bC at h ⊢;exact h
 |d::ds,xs,h=>by unfold bC at h ⊢;obtain⟨x,r,e0,h1,h2⟩:=h;exact⟨x,r,e0,cO.up e d h1,bC.up e ds h2⟩
end
mutual
theorem cO.rd{K:HW}{H:Hp}:∀(d:Dt) {v:V},cO H d v->mO K H d v
 | .int i,v,h=>by unfold cO at h;unfold mO;exact h
 | .tup ds,v,h=>by unfold cO at h;unfold mO;obtain⟨a,xs,r,hs,hd⟩:=h;exact⟨a,xs,r,bx.of hs,bC.rd ds hd⟩
 | .non,v,h=>by unfold cO at h;exact h.elim
 | .bl b,v,h=>by unfold cO at h;exact h.elim
 | .str x,v,h=>by unfold cO at h;exact h.elim
 | .lst ds,v,h=>by unfold cO at h;exact h.elim
theorem bC.rd{K:HW}{H:Hp}:∀(ds:List Dt) {xs:List V},bC H ds xs->je K H ds xs
 | [],xs,h=>by unfold bC at h;unfold je;exact h
 |d::ds,xs,h=>by unfold bC at h;unfold je;obtain⟨x,r,e0,h1,h2⟩:=h;exact⟨x,r,e0,cO.rd d h1,bC.rd ds h2⟩
end
theorem bC.cons{H:Hp}{d:Dt}{ds:List Dt}{x:V}{xs:List V}(h:cO H d x)(t:bC H ds xs):bC H (d::ds) (x::xs):=by unfold bC;exact⟨x,xs,rfl,h,t⟩
theorem bC.uncons{H:Hp}{d:Dt}{ds:List Dt}{xs:List V}(h:bC H (d::ds) xs):∃x r,xs=x::r/\cO H d x/\bC H ds r:=by unfold bC at h;exact h
theorem cO.node{H:Hp}{a:Addr}{i:Int}{ds:List Dt}{xs:List V}(h:H a=some (.tup (V.int i::xs)))(t:bC H ds xs):cO H (.tup (.int i::ds)) (.ref a):=by
 unfold cO;exact⟨a,_,rfl,h,bC.cons (by unfold cO;rfl) t⟩
section
variable {np:Nat->Nat}{num:Str->Option Nat}
end
theorem tK:∀{ns:List Int} {us:Ia},aT (ns.map V.int) us->∃ps:List (Int×Tok),us.toArray=intItems ps.toArray/\ps.map (·.1)=ns
 | [],us,r=>⟨[],by have:=r.zero;subst this;simp[intItems],rfl⟩
 |n::ns,us,r=>by
  cases r with
  |cons h t=>
   obtain⟨tk,rfl⟩:=h;obtain⟨ps,e1,e2⟩:=tK t;refine⟨(n,tk)::ps,?_,by rw[Hx,e2]⟩;have:=congrArg Array.toList e1;unfold intItems at this ⊢;simp at this ⊢;exact this
section
variable {X:Cx}
theorem lR(hc:X.calm=true):ft X (.builtin "sum") (λxs H Q=>∃(p:Addr) (ns:List Int),xs=[.ref p]/\aN X.K H p (ns.map V.int)/\Q (.int ns.sum) H):=by
 intro pins s σ H xs us Q I r h;obtain⟨p,ns,rfl,hs,q⟩:=h;obtain⟨u,rfl,ru⟩:=r.one;cases ru;obtain⟨its,rv,pl,_⟩:=I.list hs;obtain⟨ps,e1,e2⟩:=tK rv;refine sum_intListG (xs:=ps.toArray) (I.ok.hd hc) (by rw[<- e1];exact pl.isList) λh' tk t' hk=>?_;have e3:preSum (numAt ps.toArray) ps.toArray.size=ns.sum:=by
  rw[preSum_eq,List.take_of_length_le (by simp),<- e2]
 rw[e3];exact⟨.int _,H,I.kept (t':=tk) hk,⟨_,rfl⟩,q⟩
theorem uE:bootBuiltins "sum"=some (.builtin "sum"):=by decide +kernel
end
section
variable {prog:Ig}{w:Ij}{A:Ii}{R:Result->Shared->Prop}{I:Addr}{fp wr:Ib}{n:Nat}{P:Nat->Value->Prop}{St:Nat->Heap->Prop}
end
section
variable {prog:Ig}{w:Ij}{A:Ii}{E:HV}{s:HZ}
end
section
variable {X:Cx}{e:Expr}{t tk:TA}{p pos kpos:Pos}{de:Expr}
end
end L2
namespace L2
open PySem PySem.Spec PyProof.Rows QL bz
section
variable {X:Cx}
variable {e st:Expr}{te ts:TE}{p2 pos:Pos}
end
section
variable {prog:Ig}{w:Ij}{A:Ii}{E:HV}{s:HZ}
end
section
variable {X:Cx}{elts:Il}{x1:Nat}{tp:Pos}
end
section
variable {K:HW}{g:TG}{tb:TS}{D:iJ}{σ:St}{H:Hp}
end
section
variable {prog:Ig}{w:Ij}{A:Ii}{E:HV}{s:HZ}
end
section
variable {prog:Ig}{w:Ij}{A:Ii}{E:HV}{s:HZ}
end
section
variable {X:Cx}{e:Expr}{t:TE}{p p2 pos pos2:Pos}
end
section
variable {prog:Ig}{w:Ij}{A:Ii}{E:HV}
end
section
variable {prog:Ig}{w:Ij}{A:Ii}{E:HV}{s:HZ}
end
section
variable {X:Cx}{tg:Expr}
end
section
variable {prog:Ig}{w:Ij}{A:Ii}{E:HV}{s:HZ}
open HT in
theorem j7{t sl:Addr}{items:Array Value}{vl vu:Value}{lo hi:Option Int}{Q:HV}(ht:IsTup s.heap t items)(hs:s.heap.IsSliceOf sl vl vu .none)(pl:IsPart vl lo)(pu:IsPart vu hi)
  (hw:sIx items.size 0 lo=0/\sIx items.size items.size hi=items.size) (h:Q (.ref t) s):wpAny (model prog w) A (getItem (.ref t) (.ref sl)) Q E s:=by
 obtain⟨os,hos,hcs,hds⟩:=id hs;have hTs:s.TypeIs (.ref sl) "slice":=⟨os,hos,hcs⟩;unfold getItem
 try with_reducible refine wpAny_holding ?_
 first | refine wpAny_bind (wpAny_pure ?_) | skip
 refine wpAny_bind (wpAny_sequenceKey ht.typeIs nofun ?_);refine wpAny_bind (wpAny_callSpecial?_slot (name:=Str.ofString "__getitem__") ht.typeIs PyProof.Rows.slot_tuple_getitem
  (wpAny_call_entry PyProof.Rows.slot_tuple_getitem ht.typeIs entry_tuple_getitem ?_ (args_tuple_getitem _ _)))
 show wpAny _ _ (Builtin.Tuple.tupleItemsOf (.ref t) >>= _) _ _ s;refine wpAny_bind (tupleItemsOf_ ht ?_);refine wpAny_bind (wpAny_typeOf hTs ?_);rw[if_pos nofun];refine wpAny_bind (g_ hs pl pu ?_);have hyes:(((sIx items.size 0 lo:Nat):Int)==0&&(1:Int)==1&&(sIx items.size items.size hi-sIx items.size 0 lo)==items.size)=true:=by
  rw[hw.1,hw.2];simp
 show wpAny _ _ (if(((sIx items.size 0 lo:Nat):Int)==0&&(1:Int)==1&&(sIx items.size items.size hi-sIx items.size 0 lo)==items.size)=true then _ else _) _ _ s;rw[if_pos hyes];refine wpAny_bind ?_;unfold Builtin.Tuple.tupleIsExact;refine wpAny_bind (wpAny_typeOf ht.typeIs ?_);refine wpAny_pure ?_;rw[if_pos nofun];refine wpAny_bind (wpAny_rule ?_);exact wpAny_pure ⟨_,rfl,wpAny_pure h⟩
end
noncomputable def Co(K:HW):V->Option Int->Option Int->Hp->VK->Prop:=λx lo hi H Q=>∃a xs,x=.ref a/\bx K H a xs/\∀p H',bx K H' p (l8 xs lo hi)->az H H'->Q (.ref p) H'
section
variable {X:Cx}
theorem wk:Dj X (Co X.K):=by
 intro pins s σ H x v vl vu lo hi sl Q I rx hs pl pu h;obtain⟨a,xs,rfl,ha,q⟩:=h;cases rx;obtain⟨its,r,ht,hz⟩:=I.tuple ha;have hlen:its.toArray.size=xs.length:=by rw[Hb];exact r.length.symm
 refine⟨"tuple",_,PyProof.Rows.slot_tuple_getitem.lookup,ht.typeIs,?_⟩
 by_cases hw:HT.sIx xs.length 0 lo=0/\HT.sIx xs.length xs.length hi=xs.length
 ·refine j7 ht hs pl pu (by rw[hlen];exact hw) ?_
  refine⟨.ref a,H,I,rfl,q a H ?_ (az.refl _)⟩;have e:l8 xs lo hi=xs:=by unfold l8;rw[hw.1,hw.2,HU,Nat.sub_zero,HE]
  rw[e];exact ha
 ·refine HT.getItem_tuple_cut ht hs pl pu (by rw[hlen];exact hw) ?_ (by rw[hlen];exact hz)
  rw[hlen];refine⟨.ref s.heap.objs.size,_,I.laid (t':=s.toks) (o:=.tup (l8 xs lo hi)) (λb ob q=>G6 _ q) (Hr _) ?_,rfl,q _ _ (bx.of ac) (af (I.hok.fresh (Hr _)))⟩;exact⟨Hy (iR xs lo hi) hz,_,(r.drop (HT.sIx xs.length 0 lo)).take (HT.sIx xs.length xs.length hi-HT.sIx xs.length 0 lo),IsTup.new _ _⟩
end
section
variable {X:Cx}
end
section
variable {X:Cx}
end
theorem Ej{a:Addr}{P:Addr->Prop}:(∃p,V.ref a=V.ref p/\P p)=P a:=by simp
theorem D0{a:Int}{P:Int->Prop}:(∃p,V.int a=V.int p/\P p)=P a:=by simp
theorem D2{a:Bool}{P:Bool->Prop}:(∃p,V.bl a=V.bl p/\P p)=P a:=by simp
theorem D7{a:Str}{P:Str->Prop}:(∃p,V.str a=V.str p/\P p)=P a:=by simp
theorem En{α:Type}{a:Addr}{P:Addr->α->Prop}:(∃p,∃x,V.ref a=V.ref p/\P p x) = ∃x,P a x:=by simp
theorem Ef{α:Type}{a:Addr}{P:Addr->α->Prop}:(∃p,∃x,[V.ref a]=[V.ref p]/\P p x) = ∃x,P a x:=by simp
theorem D8{α:Type}{a:Addr}{v:V}{P:Addr->α->V->Prop}:(∃p,∃x,∃y,V.ref a=V.ref p/\[v]=[y]/\P p x y) = ∃x,P a x v:=by simp
theorem D6{α β:Type}{a b:Addr}{P:Addr->Addr->α->β->Prop}:(∃p,∃q,∃x,∃y,V.ref a=V.ref p/\V.ref b=V.ref q/\P p q x y) = ∃x,∃y,P a b x y:=by simp
noncomputable def DW(i:Nat):TE:=λσ H Q=>match σ[i]? with
 |some (some v)=>Q v H
 |_=>False
noncomputable def A5(g:Int->Int->V):R2
 | .int i,.int j,H,Q=>Q (g i j) H
 |x,y,H,Q=>yk g x y H Q
noncomputable def DP(C:Int->Int->Prop)(g:Int->Int->V):R2
 | .int i,.int j,H,Q=>C i j/\Q (g i j) H
 |x,y,H,Q=>rI C g x y H Q
noncomputable def v8(K:HW):R2
 | .ref p,.int i,H,Q=>∃xs,aN K H p xs/\∃v,dY xs i=some v/\Q v H
 |x,y,H,Q=>uK K x y H Q
noncomputable def wg(K:HW):R2
 | .ref p,.int i,H,Q=>∃xs,bx K H p xs/\∃v,dY xs i=some v/\Q v H
 |x,y,H,Q=>wZ K x y H Q
theorem y0{g:Int->Int->V}{x y:V}{H:Hp}{Q:VK}:A5 g x y H Q=yk g x y H Q:=by
 unfold A5;split
 ·simp[yk]
 ·rfl
theorem B5{C:Int->Int->Prop}{g:Int->Int->V}{x y:V}{H:Hp}{Q:VK}:DP C g x y H Q=rI C g x y H Q:=by
 unfold DP;split
 ·simp[rI]
 ·rfl
theorem wR{K:HW}{x y:V}{H:Hp}{Q:VK}:v8 K x y H Q=uK K x y H Q:=by
 unfold v8;split
 ·simp[uK]
 ·rfl
theorem wx{K:HW}{x y:V}{H:Hp}{Q:VK}:wg K x y H Q=wZ K x y H Q:=by
 unfold wg;split
 ·simp[wZ]
 ·rfl
theorem Bi{g:Int->Int->V}{i j:Int}{H:Hp}{Q:VK}:A5 g (.int i) (.int j) H Q=Q (g i j) H:=rfl
theorem CP{C:Int->Int->Prop}{g:Int->Int->V}{i j:Int}{H:Hp}{Q:VK}:DP C g (.int i) (.int j) H Q=(C i j/\Q (g i j) H):=rfl
theorem Ar{K:HW}{p:Addr}{i:Int}{H:Hp}{Q:VK}:v8 K (.ref p) (.int i) H Q = ∃xs,aN K H p xs/\∃v,dY xs i=some v/\Q v H:=rfl
theorem Aa{K:HW}{p:Addr}{i:Int}{H:Hp}{Q:VK}:wg K (.ref p) (.int i) H Q = ∃xs,bx K H p xs/\∃v,dY xs i=some v/\Q v H:=rfl
theorem F8{α β:Type}{f:α->β}{a:α}{l:List α}:List.map f (a::l)=f a::List.map f l:=rfl
theorem FV{α β:Type}{f:α->β}:List.map f []=[]:=rfl
theorem Ft{α:Type}{a:α}{l m:List α}:(a::l)++m=a::(l++m):=rfl
theorem Fa{α:Type}{m:List α}:[]++m=m:=rfl
theorem GB{α:Type}{a:α}{l:List α}:(a::l)[0]?=some a:=rfl
theorem Gj{α:Type}{a:α}{l:List α}{n:Nat}:(a::l)[n+1]?=l[n]?:=rfl
theorem El{α:Type}{a b:α}{l:List α}:(a::l).set 0 b=b::l:=rfl
theorem FM{α:Type}{a b:α}{l:List α}{n:Nat}:(a::l).set (n+1) b=a::l.set n b:=rfl
section
variable {X:Cx}
theorem al(i:Nat){x:Str}{pos:Pos}(hN:autoParam (X.N[i]?=some x) zz0._auto_1)(hv:autoParam (DX X.env.scope x) zz5._auto_1)(hd:autoParam ((x==("__debug__":Str))=false) zz1._auto_1)
  (hc:autoParam ((x==("__classdict__":Str))=false) zz1._auto_1):PE X (.Name x pos) (DW i):=λpins s σ H Q I h=>pv i hN hv hd hc pins s σ H Q I (by
 unfold DW at h
 split at h
 ·exact⟨_,‹_›,h⟩
 ·exact h.elim)
theorem aW.m0{f:Value->Value->Sem Value}{g:Int->Int->V}(h:aW X f (yk g)):aW X f (A5 g):=λpins s σ H x y v u Q I a b c=>h pins s σ H x y v u Q I a b (y0▸c)
theorem aW.m1{f:Value->Value->Sem Value}{C:Int->Int->Prop}{g:Int->Int->V}(h:aW X f (rI C g)):aW X f (DP C g):=λpins s σ H x y v u Q I a b c=>h pins s σ H x y v u Q I a b (B5▸c)
theorem bi:B2 X (v8 X.K):=λe sl pins s σ H x y v u Q I a b c d=>mX e sl pins s σ H x y v u Q I a b (wR▸c) d
theorem aF:B2 X (wg X.K):=λe sl pins s σ H x y v u Q I a b c d=>zu e sl pins s σ H x y v u Q I a b (wx▸c) d
end
section
variable {prog:Ig}{w:Ij}{A:Ii}{E:HV}{s:HZ}
theorem o_{l:Addr}{a b:Int}{t u:Tok}{Q:HV}(hh:A.handled=none)(hl:s.heap.IsTuple l (intItems #[(a,t),(b,u)]))
  (h:∀h' tk,(∀c o,s.heap.get? c=some o->h'.get? c=some o)->Q (if b>a then .int b u else .int a t) {s with heap:=h',toks:=tk}) :
  wpAny (model prog w) A (call (.builtin "max") [.ref l]) Q E s:=by
 have hlt:l<s.heap.objs.size:=by obtain⟨_,e,_⟩:=hl;exact Hu e
 refine call_max_walk (wpAny_pyIter_tuple hl ?_);refine⟨_,[_,l],[_],_,_,_,_,rfl,Walks.tuple (A:=A.in1) hh _ l (Hm hlt) (intItems #[(a,t),(b,u)]),
  ⟨⟨_,Ha _ rfl,rfl,rfl⟩,hl.push _⟩,λc hc=>?_,by simp[intItems],CmpOf.ints_gt (numAt #[(a,t),(b,u)]) (λ_ _=>intItems_at),λv h' tk hP hk=>?_⟩
 ·show c<(s.heap.push _).objs.size
  rw[Heap.size_push];rcases Hi.mp hc with rfl | hc
  ·exact HA _
  ·rcases Hi.mp hc with rfl | hc
   ·exact Nat.lt_succ_of_lt hlt
   ·cases hc
 ·have hold:∀c o,s.heap.get? c=some o->h'.get? c=some o:=λc o e=>by
   refine hk c o (λhm=>?_) (G6 _ e);rcases Hi.mp hm with e1 | hm
   ·have:=Hu e;rw[e1]at this;exact Hz _ this
   ·cases hm
  have:=h h' tk hold;have hv:v=if b>a then Value.int b u else Value.int a t:=by
   have hP':(intItems #[(a,t),(b,u)])[argBest (λi j=>decide (numAt #[(a,t),(b,u)] i>numAt #[(a,t),(b,u)] j)) 1]?=some v:=by
    have hsz2:(intItems #[(a,t),(b,u)]).size-1=1:=by simp[intItems]
    rw[<- hsz2];exact hP
   by_cases hba:b>a
   ·have e:argBest (λi j=>decide (numAt #[(a,t),(b,u)] i>numAt #[(a,t),(b,u)] j)) 1=1:=by simp[argBest,numAt,hba]
    rw[e]at hP'
    simpa[intItems,hba]using hP'.symm
   ·have e:argBest (λi j=>decide (numAt #[(a,t),(b,u)] i>numAt #[(a,t),(b,u)] j)) 1=0:=by simp[argBest,numAt,hba]
    rw[e]at hP'
    simpa[intItems,hba]using hP'.symm
  rw[hv];exact this
end
noncomputable def zA(K:HW):List V->Hp->VK->Prop:=λxs H Q=>∃p i j,xs=[.ref p]/\bx K H p [.int i,.int j]/\Q (.int (if j>i then j else i)) H
section
variable {X:Cx}
theorem xg(hc:X.calm=true):ft X (.builtin "max") (zA X.K):=by
 intro pins s σ H xs us Q I r h;obtain⟨p,i,j,rfl,hs,q⟩:=h;obtain⟨u,rfl,ru⟩:=r.one;cases ru;obtain⟨its,rv,⟨o,e,hcl,n,hd⟩,_⟩:=I.tuple hs;obtain⟨v,v',rfl,⟨t,rfl⟩,⟨t',rfl⟩⟩:=DK rv;refine o_ (l:=p) (a:=i) (b:=j) (t:=t) (u:=t') (I.ok.hd hc) ⟨o,e,hcl,n,by rw[hd];simp[intItems]⟩ λh' tk k=>⟨_,H,I.kept k,?_,q⟩
 by_cases hj:j>i
 ·rw[if_pos hj,if_pos hj];exact⟨_,rfl⟩
 ·rw[if_neg hj,if_neg hj];exact⟨_,rfl⟩
end
section
variable {g:TG}{ti:TT}{te:TE}{σ:St}{H:Hp}{Q:List V->Hp->Prop}
end
section
variable {X:Cx}{tg:Expr}
end
section
variable {g:TG}{tb:TS}{D:iJ}{σ:St}{H:Hp}
end
section
variable {X:Cx}{pins:HX}{σ:St}{H:Hp}{s:HZ}
end
section
variable {X:Cx}
end
section
variable {X:Cx}{pins:HX}{σ:St}{H:Hp}{s:HZ}{A:Ii}
end
section
variable {X:Cx}
end
section
variable {prog:Ig}{w:Ij}{A:Ii}{E:HV}{s:HZ}
end
section
variable {X:Cx}{elts:Il}{x1:Nat}{tp:Pos}
end
section
variable {K:HW}{g:TG}{tb:TS}{D:iJ}{σ:St}{H:Hp}
end
section
variable {X:Cx}{es:Il}{te:TE}
theorem Br{tgs:Il}{x1:Nat}{tp:Pos}{b:Expr}{tb:TE}{g:TG}{pos p lp:Pos}(he:WE X (.List es lp) te)(hb:PE X b tb)(hs:wK b)(hg:PG X (.Tuple tgs x1 tp) g):WS X (.Assign [.Tuple tgs x1 tp] (.Subscript (.List es lp) b p) pos) (w8 (Cf (uK X.K) te tb) g):=⟨ng (aD mX he.out hb hs) hg⟩
end
inductive TrD:Dt->Prop
 |mk (i:Int) (ds:List Dt):(∀d∈ds,TrD d)->TrD (.tup (.int i::ds))
section
variable {X:Cx}
theorem TrD.item{d:Dt}{ds:List Dt}(h:TrD (.tup ds)):∀j,ds[j]?=some d->(j=0/\∃i,d=.int i)\/(0<j/\TrD d):=by
 cases h with
 |mk i ds hd=>
  intro j hj;cases j with
  |zero=>cases hj;exact .inl ⟨rfl,i,rfl⟩
  |succ j=>exact .inr ⟨Nat.succ_pos _,hd d (G_ hj)⟩
theorem Ec{pins:HX}{σ:St}{H:Hp}{s:HZ}(I:Inv X pins σ H s):∀(n:Nat) (d d':Dt) (A:Ii) {v u:V} {vv uu:Value},d.dep<=n->A.units+n<cLine->TrD d->TrD d'->mO X.K H d v->mO X.K H d' u->ba v vv->ba u uu->∃b,SeqAt.EqAt A s vv uu b:=by
 intro n
 induction n with
 |zero=>
  intro d d' A v u vv uu hd;intro _ t;cases t with
  |mk i ds h=>unfold Dt.dep at hd;omega
 |succ n ih=>
  intro d d' A v u vv uu hd hA t1 t2 h1 h2 r1 r2;obtain⟨ds,rfl⟩:∃ds,d=.tup ds:=by cases t1;exact⟨_,rfl⟩
  obtain⟨ds',rfl⟩:∃ds,d'=.tup ds:=by cases t2;exact⟨_,rfl⟩
  unfold mO at h1 h2;obtain⟨a,xs,rfl,ha,hxs⟩:=h1;obtain⟨b,ys,rfl,hb,hys⟩:=h2;cases r1;cases r2
  by_cases hab:a=b
  ·subst hab;exact⟨true,SeqAt.EqAt.same _⟩
  ·unfold Dt.dep at hd
   obtain⟨its,ra,pa,_⟩:=I.tuple ha;obtain⟨its2,rb,pb,_⟩:=I.tuple hb;have l1:=ra.length;have l2:=rb.length;have l3:=hxs.length;have l4:=hys.length
   have key:∀j:Nat,∃b:Bool,∀(g1:j<its.toArray.size) (g2:j<its2.toArray.size),SeqAt.EqAt A.in1 s its.toArray[j] its2.toArray[j] b:=λj=>by
    by_cases g:j<its.toArray.size/\j<its2.toArray.size
    ·obtain⟨g1,g2⟩:=g
     have g1':j<its.length:=by simpa using g1
     have g2':j<its2.length:=by simpa using g2
     have x1:xs[j]?=some xs[j]:=G4 ⋯;have y1:ys[j]?=some ys[j]:=G4 ⋯;obtain⟨d,e1,rd1⟩:=hxs.get x1;obtain⟨d',e2,rd2⟩:=hys.get y1;obtain⟨w1,f1,rr1⟩:=ra.get x1;obtain⟨w2,f2,rr2⟩:=rb.get y1;rw[G4 g1']at f1;rw[G4 g2']at f2;cases f1;cases f2
     have hdep:=kK e1;rcases t1.item j e1 with⟨z1,i1,rfl⟩ | ⟨z1,q1⟩<;>rcases t2.item j e2 with⟨z2,i2,rfl⟩ | ⟨z2,q2⟩
     ·unfold mO at rd1 rd2
      rw[rd1]at rr1;rw[rd2]at rr2
      exact⟨_,λ_ _=>by simp only[HM];exact gu rr1 rr2 rfl rfl⟩
     ·omega
     ·omega
     ·obtain⟨b,hb⟩:=ih d d' A.in1 ⋯ (by show A.units+1+n<cLine;omega) q1 q2 rd1 rd2 rr1 rr2
      exact⟨b,λ_ _=>by simp only[HM];exact hb⟩
    ·exact⟨true,λg1 g2=>absurd ⟨g1,g2⟩ g⟩
   exact⟨_,SeqAt.EqAt.of_refs hab (SeqAt.RcAt.tuples (A:=A) (s:=s) (e:=λj=>(key j).choose) (show s.heap.IsTuple a its.toArray from pa) (show s.heap.IsTuple b its2.toArray from pb) ⋯ λj g1 g2=>(key j).choose_spec g1 g2)⟩
noncomputable def C6(K:HW):R2:=λx y H Q=>∃p xs dx ds,y=.ref p/\aN K H p xs/\mO K H dx x/\TrD dx/\dx.dep<=200/\je K H ds xs/\(∀d∈ds,TrD d/\d.dep<=200)/\∀b:Bool,(b=true->dx∉ds)->Q (.bl b) H
open Classical in
theorem w4(hu:X.A.units+210<cLine):aW X (compareOp .NotIn) (C6 X.K):=by
 intro pins s σ H x y v u Q I rx ry h;obtain⟨p,xs,dx,ds,rfl,hq,hx,tx,px,hds,ht,q⟩:=h;cases ry;obtain⟨its,r,pl,hz⟩:=I.list hq;have ex:∀w∈its,∃b,SeqAt.EqAt X.A.in1 s w v b/\((∃x',ba x' w/\mO X.K H dx x')->b=true):=λw hw=>by
  by_cases hc:∃x',ba x' w/\mO X.K H dx x'
  ·obtain⟨x',r1,r2⟩:=hc
   exact⟨true,CU I 200 dx X.A.in1 px (by show X.A.units+1+200<cLine;omega) r2 hx r1 rx,λ_=>rfl⟩
  ·obtain⟨j,hj,e⟩:=List.mem_iff_getElem.mp hw
   have l1:=r.length;have l2:=hds.length
   have x1:xs[j]?=some xs[j]:=G4 ⋯;obtain⟨d,e1,rd1⟩:=hds.get x1;obtain⟨w1,f1,rr1⟩:=r.get x1;rw[G4 hj,e]at f1;cases f1;obtain⟨t,pd⟩:=ht d (G_ e1);obtain⟨b,hb⟩:=Ec I 200 d dx X.A.in1 pd (by show X.A.units+1+200<cLine;omega) t tx rd1 hx rr1 rx;exact⟨b,hb,λz=>absurd z hc⟩
 obtain⟨e,he⟩:∃e:Value->Bool,∀w,w∈its->SeqAt.EqAt X.A.in1 s w v (e w)/\((∃x',ba x' w/\mO X.K H dx x')->e w=true):=⟨λw=>if h:w∈its then(ex w h).choose else false,λw h=>by dsimp only;rw[dif_pos h];exact(ex w h).choose_spec⟩;refine SeqAt.notIn_listAt e pl.isList (λw hw=>(he w (by simpa using hw)).1) ⟨.bl _,H,I,rfl,q _ λhb hm=>?_⟩;obtain⟨j,hj,e0⟩:=List.mem_iff_getElem.mp hm;have l1:=r.length;have l2:=hds.length
 have x1:xs[j]?=some xs[j]:=G4 ⋯;obtain⟨d,e1,rd1⟩:=hds.get x1;rw[G4 hj,e0]at e1;cases e1;obtain⟨w1,f1,rr1⟩:=r.get x1;have hw:=G_ f1;have:its.any e=true:=List.any_eq_true.mpr ⟨w1,hw,(he w1 hw).2 ⟨_,rr1,rd1⟩⟩;rw[show its.toArray.any e=its.any e by simp,this]at hb;exact absurd hb nofun
end
theorem AW:Slot "list_reverseiterator" "__length_hint__" "list_reverseiterator.__length_hint__":=
 .of (owner:="list_reverseiterator") (n:="__length_hint__") (by rw[typeLookup_type,builtinLookup_eq_fast];kernel_rfl) (by decide +kernel) (by decide +kernel) (by decide +kernel) (by first | exact .inl (by decide +kernel) | exact .inr (by decide +kernel)) (by rw[isSubtype_type];kernel_rfl)
theorem zL:typeLookup (.type "list_reverseiterator") "__len__"=pure none:=by rw[typeLookup_type,builtinLookup_eq_fast];kernel_rfl
section
variable {prog:Ig}{w:Ij}{A:Ii}{E:HV}{s:HZ}
set_option maxHeartbeats 1000000 in
theorem zQ{r a:Addr}{us:Array Value}{Q:Bool->Shared->Prop}(ir:s.heap.IsRevIter r a ((us.size:Int)-1))(ha:s.heap.IsList a us)(hz:us.size<=sizeLine)
  (q:∀b tk,Q b {s with toks:=tk}):wpAny (model prog w) A (Builtin.List.listLengthHint (.ref r)) Q E s:=by
 unfold Builtin.List.listLengthHint;refine wpAny_bind (wpAny_specialOf ir.typeIs zL ?_)
 try dsimp only
 rw[if_neg nofun,if_neg nofun];refine wpAny_bind (wpAny_specialOf ir.typeIs AW.lookup ?_);have sp:splitId "list_reverseiterator.__length_hint__"=some ("list_reverseiterator","__length_hint__"):=by decide +kernel
 dsimp only;rw[sp];dsimp only;refine wpAny_bind (wpAny_isInstance (b:=true) ir.typeIs (by rw[isSubtype_type];kernel_rfl) ?_);rw[if_neg nofun,if_pos (by decide +kernel),if_neg (by decide +kernel)];exact wpAny_pure (q _ _)
set_option maxHeartbeats 1000000 in
theorem xu{R:Result->Shared->Prop}{r a B:Addr}{us:Array Value}{c:Nat}(hh:A.handled=none)(ir:s.heap.IsRevIter r a ((us.size:Int)-1))(ha:s.heap.IsList a us)(hz:us.size<=sizeLine)(hra:a≠r)(hB:s.heap.get? B=some {cls:=.type "list",data:=.seq #[] c})(hBr:B≠r)(hBa:B≠a)
  (q:∀h' tk acc c',(∀b o,b≠B->b≠r->s.heap.get? b=some o->h'.get? b=some o)->h'.get? B=some {cls:=.type "list",dict:=none,data:=.seq acc c',slots:=#[]}->ItemsOf (λi v=>us[us.size-1-i]?=some v) acc us.size->R (.ok (.ret .none)) {s with heap:=h',toks:=tk}) :
  wpAny (model prog w) A.in1 (Builtin.List.listExtendWith (.ref B) (.ref r) .none)
   (λfin s'=>match fin with | .done f=>R (.ok f) s' | .again c'=>c'.quiet=true/\codeAny (model prog w) A c' R s') (λe s'=>R (.error e) s') s:=by
 have W:=Walks.listRev (prog:=prog) (w:=w) (A:=A.in1) hh r a hra us;have El:0<=us.size/\s.heap.IsRevIter r a ((us.size:Int)-1-((0:Nat):Int))/\s.heap.IsList a us:=⟨Hs _,by simpa using ir,ha⟩;have hBf:B∉[r,a]:=by simp[hBr,hBa]
 unfold Builtin.List.listExtendWith;refine wpAny_bind (wpAny_typeOf ir.typeIs ?_);have k1:Builtin.List.listSameRef (.ref B) (.ref r)=false:=by simp[Builtin.List.listSameRef,hBr]
 rw[if_neg (by rw[k1];decide)];refine wpAny_bind (wpAny_pyIter_revIter ir ?_);refine wpAny_bind (wpAny_holding (zQ ir ha hz λb tk=>?_));have loop:∀(h2:Heap) (tk2 c2:Nat),(∀b o,b≠B->s.heap.get? b=some o->h2.get? b=some o)->h2.get? B=some {cls:=.type "list",data:=.seq #[] c2} ->
   codeAny (model prog w) A (.builtin "list.extend.loop" ⟨[.ref B,.ref r,.none],[]⟩) R {s with heap:=h2,toks:=tk2}:=by
  intro h2 tk2 c2 kp eB;have st2:=W.frame 0 s.heap h2 El λb hb o e=>kp b o (λz=>hBf (z▸hb)) e;refine codeAny_extend_loopS W.toS hz _ hBf _ us.size 0 {s with heap:=h2,toks:=tk2} _ _ rfl (Hs _) st2 eB (ItemsOf.nil _) λs' acc' c' hm hB' hacc=>?_;rw[Moved.eq_with hm];refine q s'.heap s'.toks acc' c' (λb o n1 n2 e=>hm.heap b o (λz=>?_) (kp b o n1 e)) hB' hacc;simp only[Hi,List.not_mem_nil,or_false]at z;rcases z with z | z
  ·exact n1 z
  ·exact n2 z
 cases b with
 |false=>
  rw[if_neg (by decide +kernel)];exact wpAny_pure ⟨plainId_quiet F.plain_extend_loop _,loop s.heap tk c (λb o _ e=>e) hB⟩
 |true=>
  rw[if_pos (by rfl)];refine wpAny_bind (wpAny_rule (wpAny_bind ?_));unfold Builtin.List.listTouch;show wpAny _ _ (updateSeq B (λx=>x.push .none) >>= λ_=>updateSeq B (λx=>x.pop)) _ _ _;refine wpAny_bind (wpAny_updateSeq hB rfl ?_);have eB1:=Hd (Obj.mapSeq (λx:Array Value=>x.push Value.none)) hB rfl;refine wpAny_updateSeq eB1 rfl ?_;have eB2:=Hd (Obj.mapSeq (λx:Array Value=>x.pop)) eB1 rfl;refine wpAny_pure ⟨plainId_quiet F.plain_extend_loop _,loop _ tk _ (λb o n1 e=>?_) eB2⟩;exact(G' _ _ (Ne.symm n1)).trans ((G' _ _ (Ne.symm n1)).trans e)
theorem qw{r a:Addr}{us:Array Value}{Q:HV}(hh:A.handled=none)(ir:s.heap.IsRevIter r a ((us.size:Int)-1))(ha:s.heap.IsList a us)(hz:us.size<=sizeLine)(hra:a≠r)
  (q:∀h' tk acc c',(∀b o,b≠r->s.heap.get? b=some o->h'.get? b=some o)->h'.get? s.heap.objs.size=some {cls:=.type "list",dict:=none,data:=.seq acc c',slots:=#[]}->ItemsOf (λi v=>us[us.size-1-i]?=some v) acc us.size->Q (.ref s.heap.objs.size) {s with heap:=h',toks:=tk}) :
  wpAny (model prog w) A (call (.type "list") [.ref r]) Q E s:=by
 refine callType_codes (Q₁:=λob s1=>ob=.ref s.heap.objs.size/\s1={s with heap:=s.heap.push {cls:=.type "list",data:=.seq #[]} }) F.called_list (F.typeCall_list_1 _) F.entry_list_init (code_list_new _ ⟨rfl,rfl⟩) λob s1 h1=>?_;obtain⟨rfl,rfl⟩:=h1;have eB:(s.heap.push {cls:=.type "list",data:=.seq #[]}).get? s.heap.objs.size=some {cls:=.type "list",data:=.seq #[]}:=Ha _ rfl;have lr:s.heap.objs.size≠r:=by obtain⟨o,e,_⟩:=ir;exact Nat.ne_of_gt (Hu e)
 have la:s.heap.objs.size≠a:=by obtain⟨o,e,_⟩:=ha;exact Nat.ne_of_gt (Hu e)
 refine⟨⟨_,eB,rfl⟩,F.args_list_init_2 _ _,?_⟩;show wpAny _ _ (do let old <- Builtin.List.listItems (.ref s.heap.objs.size);Builtin.List.listUpdate (.ref s.heap.objs.size) (λ_=>#[]);letGo old.toList.reverse;Builtin.List.listExtendWith (.ref s.heap.objs.size) (.ref r) .none) _ _ _;refine wpAny_bind ?_;unfold Builtin.List.listItems;refine wpAny_bind (wpAny_seqItems eB rfl (wpAny_pure ?_));show wpAny _ _ (updateSeq s.heap.objs.size (λ_=>#[]) >>= λ_=>letGo (#[]:Array Value).toList.reverse >>= λ_=>Builtin.List.listExtendWith (.ref s.heap.objs.size) (.ref r) .none) _ _ _;refine wpAny_bind (wpAny_updateSeq eB rfl ?_);have eB2:=Hd (Obj.mapSeq (λ_=>(#[]:Array Value))) eB rfl;have kp:∀b o,s.heap.get? b=some o->((s.heap.push {cls:=.type "list",data:=.seq #[]}).update s.heap.objs.size (Obj.mapSeq (λ_=>(#[]:Array Value)))).get? b=some o:=λb o e=>(G' _ _ (Nat.ne_of_gt (Hu e))).trans (G6 _ e);refine wpAny_bind (wpAny_letGo ?_);refine xu (A:=A.in1) hh ?_ ?_ hz hra eB2 lr la λh' tk acc c' hk hB' hacc=>⟨rfl,q h' tk acc c' (λb o n e=>hk b o (Hm (Hu e)) n (kp b o e)) hB' hacc⟩
 ·exact ir.at λo e=>kp r o e
 ·exact ha.at λo e=>kp a o e
end
noncomputable def lT(K:HW)(t:TE):TE:=λσ H Q=>t σ H λx H1=>∃a xs,x=.ref a/\aN K H1 a xs/\∀p,H1 p=none->Q (.ref p) (au H1 p (.lst xs.reverse))
section
variable {X:Cx}{e:Expr}{t:TE}{p p2 pos pos2:Pos}
set_option maxHeartbeats 1000000 in
theorem tJ(hc:X.calm=true)(ha:PE X e t)(g1:Gl X "list")(m1:X.mg "list"=none)(g2:Gl X "reversed")(m2:X.mg "reversed"=none)
  (he1:autoParam (starEach [.Call (.Name "reversed" p2) [e] [] pos2] X.env=[(false,eval (.Call (.Name "reversed" p2) [e] [] pos2) X.env)]) zz0._auto_1) (he2:autoParam (starEach [e] X.env=[(false,eval e X.env)]) zz0._auto_1) :
  PE X (.Call (.Name "list" p) [.Call (.Name "reversed" p2) [e] [] pos2] [] pos) (lT X.K t):=by
 intro pins s σ H Q I h;have hl:bootBuiltins "list"=some (.type "list"):=by decide +kernel
 have hr:bootBuiltins "reversed"=some (.type "reversed"):=by decide +kernel
 refine wpAny_Call_Name_kw (dL I g1 m1 hl ?_);refine PyProof.Rows.callWith_type1 ?_ he1 rfl;rw[he1];show wpAny _ _ (spliced [(false,eval (.Call (.Name "reversed" p2) [e] [] pos2) X.env)]) _ _ _;refine Calls.spliced_cons ?_;refine wpAny_Call_Name_kw (dL (I.tok _) g2 m2 hr ?_);refine PyProof.Rows.callWith_type1 ?_ he2 rfl;rw[he2];show wpAny _ _ (spliced [(false,eval e X.env)]) _ _ _;refine Calls.spliced_cons (bK (ha pins _ σ H _ (I.tok _) h) λu s1 ⟨x,H1,I1,rx,a,xs,ex,hq,q⟩=>Calls.spliced_nil ?_);subst ex;cases rx;obtain⟨its,rv,pl,hz⟩:=I1.list hq;have p1:=pl.isList;have hln:=rv.length;refine call_reversed_list p1 (Calls.spliced_nil ?_);have hlt:a<s1.heap.objs.size:=by obtain⟨o,e,_⟩:=p1;exact Hu e
 refine qw (us:=its.toArray) (a:=a) (I.ok.hd hc) ⟨_,Ha _ rfl,rfl,rfl⟩ (p1.push _) (by rw[Hb];omega) (Hm hlt) λh' tk' acc c' hk hB hacc=>?_;have sz:(s1.heap.push (revObj a ((its.toArray.size:Int)-1))).objs.size=s1.heap.objs.size+1:=Heap.size_push ..;have eacc:acc=its.reverse.toArray:=by
  obtain⟨hs,hat⟩:=hacc;have hs:acc.size=its.length:=by simpa using hs
  apply Array.ext';apply List.ext_getElem?;intro i;rw[Array.getElem?_toList]
  by_cases hi:i<its.length
  ·have e1:acc[i]?=some (acc[i]'⋯):=Array.getElem?_eq_getElem ⋯
   have e2:=hat i _ e1;rw[e1,List.getElem?_reverse hi,<- e2];simp
  ·rw[Array.getElem?_eq_none ⋯,List.getElem?_eq_none (by rw[Hk];omega)]
 have kp:∀b o,s1.heap.get? b=some o->h'.get? b=some o:=λb o eo=>hk b o (Hm (Hu eo)) (G6 _ eo);have hfr:H1 (s1.heap.push (revObj a ((its.toArray.size:Int)-1))).objs.size=none:=I1.hok.fresh (by rw[sz];exact Nat.le_succ _);refine⟨.ref _,_,I1.laid (t':=tk') (o:=.lst xs.reverse) kp (by rw[sz];exact Nat.le_succ _) ⟨by rw[Hk];exact hz,its.reverse,c',rv.reverse,?_⟩,rfl,q _ hfr⟩;rw[<- eacc];exact hB
end
theorem BF{X:Cx}{K:HW}(hK:X.K=K)(hu:X.A.units+64<cLine):aW X (compareOp .Eq) (BG K):=hK▸zq hu
end L2
namespace bz
noncomputable def qT:Nat->Bool×Bool->Bool×Bool
 |0,s=>s
 |n+1,s=>qT n (!s.1,if s.1=true then s.2 else !s.2)
noncomputable def bJ(sb:Bool)(t:Nat):Bool×Bool:=qT (t%4) (sb,sb&&decide (4<=t))
end bz
set_option maxHeartbeats 4000000
namespace Q37
open PySem L2 bz QL
local macro_rules|`(tactic|walk_at "a")=>`(tactic|with_reducible assumption)

local macro_rules|`(tactic|omega)=>`(tactic|first|walk_at "a"|with_reducible decide|exact Nat.le_of_lt (by walk_at "a")|exact Nat.le_trans (by walk_at "a") (by with_reducible decide)|exact Nat.lt_of_lt_of_le (by walk_at "a") (by with_reducible decide)|exact Nat.lt_of_le_of_lt (by walk_at "a") (by with_reducible decide)|exact Nat.lt_of_lt_of_le (by walk_at "a") (by walk_at "a")|exact Nat.lt_of_le_of_lt (by walk_at "a") (by walk_at "a")|exact Nat.le_trans (by walk_at "a") (by walk_at "a")|exact Nat.succ_le_of_lt (by walk_at "a")|with_reducible exact Nat.le_trans (Nat.le_of_eq (by walk_at "a")) (by walk_at "a")|with_reducible exact Nat.le_trans (Nat.le_of_eq (Eq.symm (by walk_at "a"))) (by walk_at "a")|with_reducible exact Int.natCast_nonneg _|with_reducible exact Nat.zero_le _|omega +splitDisjunctions)
local macro_rules|`(tactic|walk_at "wp")=>do
 let f(s:String):Lean.MacroM _:=(s.splitOn ",").toArray.mapM λx=>let i:=Lean.mkIdent (x.splitOn "."|>.foldl .mkStr .anonymous);`(Lean.Parser.Tactic.simpLemma|$i:term)
 let g(s:String):Lean.MacroM _:=(s.splitOn ",").toArray.mapM λx=>let i:=Lean.mkIdent (x.splitOn "."|>.foldl .mkStr .anonymous);`(Lean.Parser.Tactic.simpLemma|↓$i:term)
 let c:="vn,tB,zC,Ap,Dd,yU,yS,w8,wV,sH,yx,tC,Cf,D9,wc,Ct,CC,Ek,Ae,An,vX,sr,qS,uN,lT,C6,Co,BG,Ab,vz,zA,CB,B9,wD,pU,oG,yG,Ah,B8,AY,uX,qN,yZ,oK,yM,qj,Cn,Cv,DS,j',oZ,nG,Ea,ze,BQ,rU,Ev,D',CW,Eb,rX,AN,CJ,Cb,Eo,Em,yv,rF,CH,AE,AJ,zY,C9,CK,Cy,wd,yR,pG,uq,L2.start,Hx,List.map_nil,He,List.length_nil,List.replicate,List.cons_append,HN,Nat.reduceAdd,Nat.reduceSub,List.getElem?_cons_zero,Hw,List.set_cons_zero,List.set_cons_succ,fJ,Cx.blk,ri,BL,yD,zo,Cx.wish,Cx.nox,DW,j_";let d<-f (c++",F8,FV,Ft,Fa,GB,Gj,El,FM,Bi,CP,Ar,Aa");let e<-f (c++",HB,Option.some.injEq,V.int.injEq,V.str.injEq,V.ref.injEq,V.bl.injEq,List.cons.injEq,and_true,true_and,exists_and_left,exists_eq_left',exists_eq_left,decide_eq_true_eq,Bool.not_eq_true',decide_eq_false_iff_not,By,Option.join_some,Nat.succ_eq_add_one,Nat.zero_add,exists_const,and_assoc,exists_eq,exists_eq',Int.reducePow,Int.reduceNeg,Int.reduceLT,or_true,true_or,reduceCtorEq,Int.zero_add,Bool.false_eq_true,Bool.not_true,Bool.not_false,y0,B5,wR,wx,uJ,uK,wZ,yk,rI");let h<-g "reduceIte,Ej,D0,D2,D7,En,Ef,D8,D6";let e:=e++h
 `(tactic|((try dsimp only[$d,*]);(try simp only[$e,*])))
set_option hygiene false in
local macro_rules|`(tactic|walk_at "nc")=>`(tactic|(clear h1;refine aj λN1 h1=>?_;walk_at "wp"))
set_option hygiene false in
local macro_rules|`(tactic|walk_at "n")=>`(tactic|(refine aj λN1 h1=>?_;walk_at "wp"))
set_option hygiene false in
local macro_rules|`(tactic|walk_at "o")=>`(tactic|(refine aj λN2 h2=>?_;walk_at "wp"))
set_option hygiene false in
local macro_rules|`(tactic|walk_at "f")=>`(tactic|refine F.ok sc (λvs H Q E h=>?_) (λcdv A outer s H vs Q E hr h=>?_))
set_option hygiene false in
local macro_rules|`(tactic|walk_at "x")=>`(tactic|refine F.okX sc (λvs H Q E h=>?_) (λcdv A outer s H vs Q E hr h=>?_))
set_option hygiene false in
local macro_rules|`(tactic|walk_at "c")=>`(tactic|exact⟨rfl,rfl,rfl,by decide +kernel,rfl,by decide +kernel,by decide +kernel⟩)
noncomputable def kD(i:Nat):Stmt:=PySem.Challenge.pw_quiltlaw_k37_whole_counts_turned.main.body.getD i (.Pass ⟨0,0,0,0⟩)
noncomputable def Ba:Stmt->List Stmt
 | .ClassDef (body:=b) ..=>b
 |_=>[]
noncomputable def eW(i j:Nat):Stmt:=(Ba (kD i)).getD j (.Pass ⟨0,0,0,0⟩)
section
variable {P:Ig}{w:Ij}{K:W.Frag}{mg:Ic}{base:Heap}
noncomputable abbrev Dg(z:Str)(c:Nat):Bool:=!(Builtin.Str.occurrences z ⟨#[c]⟩ 0 z.length 1).isEmpty
noncomputable abbrev lC:Stmt:=kD 22
noncomputable def fZ(r:HY)(z:Str):Bool:=r.all (Dg z)
inductive h_(vs:List V)(H:Hp)(Q:VK)(_E:XK):Prop
 |mk (r:HY) (z:Str) (_:vs=[.str (tx r),.str z]) (_:r.length<=100000) (_:∀H',az H H'->Q (.bl (fZ r z)) H')
theorem vV:ay ["text","letters"] ["text","letters"] (ak lC):=by walk_at "c"
theorem Fs{r:HY}{i c:Nat}(h:(tx r).cps[i]?=some c):r[i]?=some c:=by
 rw[<- h];show r[i]?=r.toArray[i]?;simp
theorem Ep(r:HY):(tx r).cps.size=r.length:=by show r.toArray.size=_;simp
theorem u6{f:Addr}{fd:Ie}(F:cY K "only_of" "only_of" lC f fd)(nb:NB mg):aZ P w K mg base bF 1 f fd ["text","letters"] h_:=by
 have sc:=vV;walk_at "f"
 ·obtain⟨r,z,rfl,_⟩:=h;rfl
 ·obtain⟨r,z,rfl,hr',q⟩:=h
  refine⟨_,(ai (aG (ax (zf rfl) rfl nb.all CM (aa (du ["sign"] [1] rfl (bv.of (by kernel_rfl)) (by kernel_rfl) (B_ (al 0))
    (λ_ _ _ _=>(av (i:=0) (by show(["sign","letters"]:List Str).Nodup;decide +kernel) rfl (Or.inl rfl))) (λ_ _ _ _=>cD) (λ_ _ _ _=>(hV xb (al 0) (al 1) (by with_unfolding_all rfl)))) ad)))),?_⟩
  walk_at "wp";refine zO (x:=tx r) (λi acc σ H'=>H'=H/\acc=((r.take i).map (Dg z)).map V.bl/\i<=r.length/\∃x,σ=[x,some (.str z)]) ⟨rfl,rfl,Hs _,_,rfl⟩ ?_ ?_ ?_ ?_
  ·rintro i acc σ H' ⟨_,rfl,hi,_⟩
   rw[G7,G7,HF];exact bb ⋯
  ·rintro i acc σ H' ⟨_,_,h,_⟩
   rw[Ep];exact h
  ·rintro i c acc σ H' hc ⟨rfl,rfl,hi,y,rfl⟩
   have hc':=Fs hc;have hi':=(G5.mp hc').1;walk_at "wp";refine⟨?_,hi'⟩;rw[List.take_add_one,hc'];simp
  ·rintro acc σ H' ⟨rfl,rfl,_⟩ l hl
   refine⟨_,aN.of ac,?_⟩;rw[Ep,HE];have e:(r.map (Dg z)).all id=fZ r z:=by unfold fZ;rw[List.all_map];rfl
   rw[e];exact q _ (af hl)
noncomputable abbrev mi:Stmt:=kD 23
noncomputable abbrev CI:Str:="ABCDEFGHIJKLMNOPQRSTUVWXYZ"
noncomputable def cr(r:HY):Bool:=decide (1<=r.length)&&decide (r.length<=4)&&fZ r CI
inductive kj(vs:List V)(H:Hp)(Q:VK)(_E:XK):Prop
 |mk (r:HY) (_:vs=[.str (tx r)]) (_:r.length<=100000) (_:∀H',az H H'->Q (.bl (cr r)) H')
theorem vY:ay ["text"] ["text"] (ak mi):=by walk_at "c"
theorem vI{f:Addr}{fd:Ie}{t1 t2:Tok}(F:cY K "is_name" "is_name" mi f fd)(nb:NB mg)(yaJ:mg "LONGEST_NAME"=some (.int 4 t1))(yaC:mg "CAPITALS"=some (.str "ABCDEFGHIJKLMNOPQRSTUVWXYZ" t2))(yaf:fF P w K mg base bF 1 "only_of" ["text","letters"] h_):aZ P w K mg base bF 2 f fd ["text"] kj:=by
 have sc:=vY;walk_at "f"
 ·obtain⟨r,rfl,_⟩:=h;rfl
 ·obtain⟨r,rfl,hr',q⟩:=h
  refine⟨_,(ai (aG (nh (tH (aW.m0 nR) (aW.m0 nR) ah (ax aS rfl nb.len aR (aa (al 0) ad)) (eJ (v:=.int 4) rfl yaJ ⟨_,rfl⟩)) (qJ (aK yaf (hr.mono nofun) rfl bg (aa (al 0) (aa (eJ (v:=.str "ABCDEFGHIJKLMNOPQRSTUVWXYZ") rfl yaC ⟨_,rfl⟩) ad))))))),?_⟩;walk_at "wp";refine⟨by rw[aw];exact am ⋯,?_⟩;rw[aw];unfold cr at q
  by_cases h1:1<=r.length
  ·rw[if_pos ⋯]
   by_cases h2:r.length<=4
   ·rw[if_pos ⋯]
    refine⟨r,_,rfl,hr',λH' sm=>?_⟩;have z:=q H' sm;rw[decide_eq_true h1,decide_eq_true h2]at z;exact z
   ·rw[if_neg ⋯]
    have z:=q H (λ_ _ e=>e);rw[decide_eq_true h1,decide_eq_false h2]at z;exact z
  ·rw[if_neg ⋯]
   have z:=q H (λ_ _ e=>e);rw[decide_eq_false h1]at z;exact z
noncomputable abbrev dh:Stmt:=eW 24 0
inductive cQ(K:W.Frag)(CF:Addr)(vs:List V)(H:Hp)(Q:VK)(E:XK):Prop
 |mk (a C dx l:Addr) (n:HY) (c:Int) (ps:bz) (_:vs=[.ref a,.str (tx n),.int c,.ref l]) (_:H a=some (.ins C dx [])) (_:kS K C) (_:aq K C "name") (_:aq K C "cost") (_:aq K C "part_names") (_:H l=some (.lst (aH ps))) (_:ps.length<=1000) (_:(∀r∈n::ps,r.length<=100000)) (_:((∀r∈n::ps,cr r=true)/\1<=c/\c<=9->∀H',az H H'->Q .non (au H' a (.ins C dx [("name",.str (tx n)),("cost",.int c),("part_names",.ref l)])))) (_:(¬ ((∀r∈n::ps,cr r=true)/\1<=c/\c<=9)->∀H',az H H'->E (.ref CF) none H'))
theorem rY:ay ["self","name","cost","part_names","text"] ["self","name","cost","part_names"] (ak dh):=by walk_at "c"
theorem sv{f zda:Addr}{fd:Ie}(F:cY K "__init__" "Rule.__init__" dh f fd)(nb:NB mg)(zEa:mg "NoRule"=some (.ref zda))(zza:XR K zda)(yaj:fF P w K mg base bF 2 "is_name" ["text"] kj):aZ P w K mg base (b7 P w) 3 f fd ["self","name","cost","part_names"] (cQ K zda):=by
 have sc:=rY;walk_at "x"
 ·obtain⟨a,C,dx,l,n,c,ps,rfl,_⟩:=h;rfl
 ·obtain⟨a,C,dx,l,n,c,ps,rfl,ha,cl,n1,n2,n3,hl,hpl,hrl,good,bad⟩:=h
  refine⟨_,(ae (bD PassesOwn.leaving rfl (bX (ar yB (bq (aa (al 1) ad)) (al 3))) (av (i:=4) sc.nd rfl (Or.inl rfl))
   (ai (bj (kF (iy (aK (CX:=b7 P w) yaj.lift (hr.mono nofun) rfl bf (aa (al 4) ad)) λ_=>rfl))
   (ai (gK zza rfl rfl zEa (i6 λ_ _ _ h=>h) (bV ad)))
   aJ)))
   (ae (bj (PW.pt (my (aE (aW.m0 qd) (al 2) ah (aI _)) (kt (aE (aW.m0 ju) (al 2) ah (aI _)))))
   (ai (gK zza rfl rfl zEa (i6 λ_ _ _ h=>h) (bV ad)))
   aJ)
   (ae (cM (al 0) (al 1) rfl)
   (ae (cM (al 0) (al 2) rfl)
   (ai (cM (al 0) (al 3) rfl)))))),?_⟩
  walk_at "wp";refine⟨am ⋯,λp hp=>?_⟩;have m1:az H (au H p (.lst [V.str (tx n)])):=af hp;have e1:au H p (.lst [V.str (tx n)]) p=some (.lst [V.str (tx n)]):=ac;generalize au H p (.lst [V.str (tx n)])=H1 at m1 e1 ⊢;refine⟨_,e1,_,m1 _ _ hl,by rw[aC];exact am (by simp;omega),λp2 hp2=>?_⟩;have e12:[V.str (tx n)]++aH ps=aH (n::ps):=rfl;rw[e12];have m2:az H1 (au H1 p2 (.lst (aH (n::ps)))):=af hp2;have e2:au H1 p2 (.lst (aH (n::ps))) p2=some (.lst (aH (n::ps))):=ac;generalize au H1 p2 (.lst (aH (n::ps)))=H2 at m2 e2 ⊢;generalize hqs:n::ps=qs at hrl good bad e2 ⊢;have m02:=m1.trans m2;refine⟨⟨_,aN.of e2⟩,cR (xs:=aH qs) (λi σ H'=>az H2 H'/\(∀r∈qs.take i,cr r=true)/\∃x,σ=[some (.ref a),some (.str (tx n)),some (.int c),some (.ref l),x]) ⟨λ_ _ e=>e,by simp,_,rfl⟩ (λi σ H' _ h=>aN.of (h.1 _ _ e2)) ?_ ?_⟩
  ·rintro i v σ H' hv ⟨sm,hok,x,rfl⟩
   have hi:i<qs.length:=by have:=(G5.mp hv).1;rwa [aC]at this
   rw[bw hi]at hv;cases hv;walk_at "wp";refine⟨_,rfl,hrl _ (Hc hi),λH3 sm3=>⟨_,rfl,?_⟩⟩
   by_cases hb:cr qs[i]=true
   ·rw[if_neg (by rw[hb];decide)]
    refine⟨sm.trans sm3,λr hr=>?_⟩;rw[List.take_add_one,G4 hi]at hr;rcases Hg.mp hr with h | h
    ·exact hok r h
    ·rw[show r=qs[i] by simpa using h];exact hb
   ·rw[if_pos (by simpa using hb)]
    exact⟨am ⋯,bad (λh=>hb (h.1 _ (Hc hi))) _ ((m02.trans sm).trans sm3)⟩
  ·rintro σ H' ⟨sm,hok,x,rfl⟩
   rw[aC,HE]at hok;have smH:=m02.trans sm;walk_at "wp"
   by_cases c1:c<1
   ·rw[if_pos c1]
    exact⟨am ⋯,bad (λh=>by omega) _ smH⟩
   ·rw[if_neg c1]
    by_cases c9:9<c
    ·rw[if_pos c9]
     exact⟨am ⋯,bad (λh=>by omega) _ smH⟩
    ·rw[if_neg c9]
     have g:=good ⟨hok,⋯,⋯⟩ H' smH;have l1:(ce "name" (V.str (tx n)) []).length<=1:=cK _ _ _;have l2:(ce "cost" (V.int c) (ce "name" (V.str (tx n)) [])).length<=2:=Hy (cK _ _ _) ⋯;have d1:¬ (("name":Str)="cost"):=by decide +kernel
     have d2:¬ (("name":Str)="part_names"):=by decide +kernel
     have d3:¬ (("cost":Str)="part_names"):=by decide +kernel
     have e:ce "part_names" (V.ref l) (ce "cost" (V.int c) (ce "name" (V.str (tx n)) []))=[(("name":Str),V.str (tx n)),(("cost":Str),V.int c),(("part_names":Str),V.ref l)]:=by
      simp only[ce,if_neg d1,if_neg d2,if_neg d3]
     refine⟨C,dx,[],smH _ _ ha,cl,n1,by simp,C,dx,_,ac,cl,n2,⋯,C,dx,_,ac,cl,n3,⋯,?_⟩;rw[kM,kM,e];exact g
def bA(a:Addr)(H H':Hp):Prop:=∀b o,b≠a->H b=some o->H' b=some o
theorem bA.of{a:Addr}{H H':Hp}(s:az H H'):bA a H H':=λb o _ e=>s b o e
theorem bA.put{a:Addr}{H H':Hp}{o:HO}(s:bA a H H'):bA a H (au H' a o):=λb u hb e=>by rw[ao hb];exact s b u hb e
theorem bA.then{a:Addr}{H H' H2:Hp}(s:bA a H H')(t:az H' H2):bA a H H2:=λb u hb e=>t b u (s b u hb e)
noncomputable abbrev Ck:Str:="abcdefghijklmnopqrstuvwxyz"
noncomputable def iZ(r:HY):Bool:=decide (r.length=1)&&fZ r Ck
def gp(n:HY)(ps:bz)(c:Int):Prop:=(∀r∈n::ps,cr r=true)/\1<=c/\c<=9
noncomputable abbrev dn:Stmt:=eW 25 0
inductive eQ(K:W.Frag)(CF:Addr)(vs:List V)(H:Hp)(Q:VK)(E:XK):Prop
 |mk (a C dx:Addr) (n sg:HY) (c:Int) (_:vs=[.ref a,.str (tx n),.int c,.str (tx sg)]) (_:H a=some (.ins C dx [])) (_:kS K C) (_:(aq K C "name"/\aq K C "cost"/\aq K C "part_names"/\aq K C "sign")) (_:n.length<=100000) (_:sg.length<=100000) (_:(gp n [] c/\iZ sg=true->∀(l:Addr) (H':Hp),bA a H H'->H l=none->H' l=some (.lst [])->H' a=some (.ins C dx [("name",.str (tx n)),("cost",.int c),("part_names",.ref l),("sign",.str (tx sg))])->Q .non H')) (_:(¬ (gp n [] c/\iZ sg=true)->∀H',bA a H H'->E (.ref CF) none H'))
theorem q8:ay ["self","name","cost","sign"] ["self","name","cost","sign"] (ak dn):=by walk_at "c"
theorem qh{f zda:Addr}{fd:Ie}{t3:Tok}(F:cY K "__init__" "CellRule.__init__" dn f fd)(nb:NB mg)(yai:mg "SMALLS"=some (.str "abcdefghijklmnopqrstuvwxyz" t3))(zEa:mg "NoRule"=some (.ref zda))(zza:XR K zda)
  (yaf:fF P w K mg base bF 1 "only_of" ["text","letters"] h_) (zha:xJ P w K mg base (b7 P w) 3 "Rule" "__init__" ["self","name","cost","part_names"] (cQ K zda)):aZ P w K mg base (b7 P w) 4 f fd ["self","name","cost","sign"] (eQ K zda):=by
 have sc:=q8;walk_at "x"
 ·obtain⟨a,C,dx,n,sg,c,rfl,_⟩:=h;rfl
 ·obtain⟨a,C,dx,n,sg,c,rfl,ha,cl,⟨n1,n2,n3,n4⟩,hn,hsg,good,bad⟩:=h
  refine⟨_,(ae (bu (mT (E:=E) zha (hr.mono nofun) rfl (b_ λ_ _ _ h=>h) (aa (al 0) (aa (al 1) (aa (al 2) (aa (bq ad) ad))))))
   (ae (bj (PW.pt (my (aE sR (ax aS rfl nb.len aR (aa (al 3) ad)) ah (aI _)) (kt (kF (iy (aK (CX:=b7 P w) yaf.lift (hr.mono nofun) rfl bf (aa (al 3) (aa (eJ (v:=.str "abcdefghijklmnopqrstuvwxyz") rfl yai ⟨_,rfl⟩) ad))) λ_=>rfl)))))
   (ai (gK zza rfl rfl zEa (i6 λ_ _ _ h=>h) (bV ad)))
   aJ)
   (ai (cM (al 0) (al 3) rfl)))),?_⟩
  walk_at "wp";refine⟨Hs _,λl hl=>?_⟩;have m1:az H (au H l (.lst [])):=af hl;have e1:au H l (.lst []) l=some (.lst []):=ac;generalize au H l (.lst [])=H1 at m1 e1 ⊢;have hla:l≠a:=λe=>by rw[e,ha]at hl;cases hl
  refine⟨a,C,dx,l,n,c,[],rfl,m1 _ _ ha,cl,n1,n2,n3,e1,by simp,λr hr=>by rw[show r=n by simpa using hr];exact hn,λok H2 sm2=>?_,λnok H2 sm2=>bad (λh=>nok h.1) _ (.of (m1.trans sm2))⟩;have sx:bA a H (au H2 a (.ins C dx [("name",.str (tx n)),("cost",.int c),("part_names",.ref l)])):=(bA.of (m1.trans sm2)).put;have ea:au H2 a (.ins C dx [("name",.str (tx n)),("cost",.int c),("part_names",.ref l)]) a=some (.ins C dx [("name",.str (tx n)),("cost",.int c),("part_names",.ref l)]):=ac;have el:au H2 a (.ins C dx [("name",.str (tx n)),("cost",.int c),("part_names",.ref l)]) l=some (.lst []):=by rw[ao hla];exact sm2 _ _ e1
  generalize au H2 a (.ins C dx [("name",.str (tx n)),("cost",.int c),("part_names",.ref l)])=H3 at sx ea el ⊢
  try dsimp only
  have sgl:iZ sg=true->sg.length=1/\fZ sg Ck=true:=λh=>by
   unfold iZ at h;rw[Bool.and_eq_true,decide_eq_true_eq]at h;exact h
  refine⟨by rw[aw];exact am ⋯,?_⟩;rw[aw]
  by_cases h1:(sg.length:Int)=1
  ·rw[if_neg (λh=>h h1)]
   refine⟨sg,_,rfl,hsg,λH4 sm4=>⟨_,rfl,?_⟩⟩
   by_cases hb:fZ sg Ck=true
   ·rw[if_neg (by rw[hb];decide)]
    have d1:¬ (("name":Str)="sign"):=by decide +kernel
    have d2:¬ (("cost":Str)="sign"):=by decide +kernel
    have d3:¬ (("part_names":Str)="sign"):=by decide +kernel
    have e:ce "sign" (V.str (tx sg)) [(("name":Str),V.str (tx n)),(("cost":Str),V.int c),(("part_names":Str),V.ref l)]=[(("name":Str),V.str (tx n)),(("cost":Str),V.int c),(("part_names":Str),V.ref l),(("sign":Str),V.str (tx sg))]:=by
     simp only[ce,if_neg d1,if_neg d2,if_neg d3]
    refine⟨C,dx,_,sm4 _ _ ea,cl,n4,by simp,?_⟩;rw[e];exact good ⟨ok,by unfold iZ;rw[decide_eq_true ⋯,hb];rfl⟩ l _ (sx.then sm4).put hl (by rw[ao hla];exact sm4 _ _ el) ac
   ·rw[if_pos (by simpa using hb)]
    exact⟨am ⋯,bad (λh=>hb (sgl h.2).2) _ (sx.then sm4)⟩
  ·rw[if_pos h1]
   exact⟨am ⋯,bad (λh=>h1 (by have:=(sgl h.2).1;omega)) _ sx⟩
inductive bU(K:W.Frag)(CF:Addr)(vs:List V)(H:Hp)(Q:VK)(E:XK):Prop
 |mk (a C dx:Addr) (n o1 o2:HY) (c:Int) (_:vs=[.ref a,.str (tx n),.int c,.str (tx o1),.str (tx o2)]) (_:H a=some (.ins C dx [])) (_:kS K C) (_:(aq K C "name"/\aq K C "cost"/\aq K C "part_names"/\aq K C "one"/\aq K C "other")) (_:n.length<=100000) (_:o1.length<=100000) (_:o2.length<=100000) (_:(gp n [o1,o2] c->∀(l:Addr) (H':Hp),bA a H H'->H l=none->H' l=some (.lst (aH [o1,o2]))->H' a=some (.ins C dx [("name",.str (tx n)),("cost",.int c),("part_names",.ref l),("one",.str (tx o1)),("other",.str (tx o2))])->Q .non H')) (_:(¬ gp n [o1,o2] c->∀H',bA a H H'->E (.ref CF) none H'))
theorem tT{n o1 o2:HY}{c:Int}{l:Addr}:ce "other" (V.str (tx o2)) (ce "one" (V.str (tx o1)) [(("name":Str),V.str (tx n)),(("cost":Str),V.int c),(("part_names":Str),V.ref l)])=[(("name":Str),V.str (tx n)),(("cost":Str),V.int c),(("part_names":Str),V.ref l),(("one":Str),V.str (tx o1)),(("other":Str),V.str (tx o2))]:=by
 have d1:¬ (("name":Str)="one"):=by decide +kernel
 have d2:¬ (("cost":Str)="one"):=by decide +kernel
 have d3:¬ (("part_names":Str)="one"):=by decide +kernel
 have d4:¬ (("name":Str)="other"):=by decide +kernel
 have d5:¬ (("cost":Str)="other"):=by decide +kernel
 have d6:¬ (("part_names":Str)="other"):=by decide +kernel
 have d7:¬ (("one":Str)="other"):=by decide +kernel
 simp only[ce,if_neg d1,if_neg d2,if_neg d3,if_neg d4,if_neg d5,if_neg d6,if_neg d7]
noncomputable abbrev cB:Stmt:=eW 26 0
theorem ou:ay ["self","name","cost","one","other"] ["self","name","cost","one","other"] (ak cB):=by walk_at "c"
theorem oA{f zda:Addr}{fd:Ie}(F:cY K "__init__" "BesideRule.__init__" cB f fd)(nb:NB mg)
  (zha:xJ P w K mg base (b7 P w) 3 "Rule" "__init__" ["self","name","cost","part_names"] (cQ K zda)):aZ P w K mg base (b7 P w) 4 f fd ["self","name","cost","one","other"] (bU K zda):=by
 have sc:=ou;walk_at "x"
 ·obtain⟨a,C,dx,n,o1,o2,c,rfl,_⟩:=h;rfl
 ·obtain⟨a,C,dx,n,o1,o2,c,rfl,ha,cl,⟨n1,n2,n3,n4,n5⟩,hn,ho1,ho2,good,bad⟩:=h
  refine⟨_,(ae (bu (mT (E:=E) zha (hr.mono nofun) rfl (b_ λ_ _ _ h=>h) (aa (al 0) (aa (al 1) (aa (al 2) (aa (bq (aa (al 3) (aa (al 4) ad))) ad))))))
   (ae (cM (al 0) (al 3) rfl)
   (ai (cM (al 0) (al 4) rfl)))),?_⟩
  walk_at "wp";refine⟨am ⋯,λl hl=>?_⟩;have m1:az H (au H l (.lst [V.str (tx o1),V.str (tx o2)])):=af hl;have e1:au H l (.lst [V.str (tx o1),V.str (tx o2)]) l=some (.lst (aH [o1,o2])):=ac;generalize au H l (.lst [V.str (tx o1),V.str (tx o2)])=H1 at m1 e1 ⊢;have hla:l≠a:=λe=>by rw[e,ha]at hl;cases hl
  refine⟨a,C,dx,l,n,c,[o1,o2],rfl,m1 _ _ ha,cl,n1,n2,n3,e1,by simp,λr hr=>?_,λok H2 sm2=>?_,λnok H2 sm2=>bad (λh=>nok h) _ (.of (m1.trans sm2))⟩
  ·have h3:r=n\/r=o1\/r=o2:=by simpa using hr
   rcases h3 with rfl | rfl | rfl
   ·exact hn
   ·exact ho1
   ·exact ho2
  ·have sx:bA a H (au H2 a (.ins C dx [("name",.str (tx n)),("cost",.int c),("part_names",.ref l)])):=(bA.of (m1.trans sm2)).put
   have ea:au H2 a (.ins C dx [("name",.str (tx n)),("cost",.int c),("part_names",.ref l)]) a=some (.ins C dx [("name",.str (tx n)),("cost",.int c),("part_names",.ref l)]):=ac;have el:au H2 a (.ins C dx [("name",.str (tx n)),("cost",.int c),("part_names",.ref l)]) l=some (.lst (aH [o1,o2])):=by rw[ao hla];exact sm2 _ _ e1
   generalize au H2 a (.ins C dx [("name",.str (tx n)),("cost",.int c),("part_names",.ref l)])=H3 at sx ea el ⊢
   try dsimp only
   refine⟨C,dx,_,ea,cl,n4,by simp,C,dx,_,ac,cl,n5,?_,?_⟩
   ·exact HH (cK _ _ _) (by simp)
   ·rw[kM,tT]
    exact good ok l _ sx.put hl (by rw[ao hla];exact el) ac
noncomputable abbrev cP:Stmt:=eW 27 0
theorem oR:ay ["self","name","cost","one","other"] ["self","name","cost","one","other"] (ak cP):=by walk_at "c"
theorem o7{f zda:Addr}{fd:Ie}(F:cY K "__init__" "AboveRule.__init__" cP f fd)(nb:NB mg)
  (zha:xJ P w K mg base (b7 P w) 3 "Rule" "__init__" ["self","name","cost","part_names"] (cQ K zda)):aZ P w K mg base (b7 P w) 4 f fd ["self","name","cost","one","other"] (bU K zda):=by
 have sc:=oR;walk_at "x"
 ·obtain⟨a,C,dx,n,o1,o2,c,rfl,_⟩:=h;rfl
 ·obtain⟨a,C,dx,n,o1,o2,c,rfl,ha,cl,⟨n1,n2,n3,n4,n5⟩,hn,ho1,ho2,good,bad⟩:=h
  refine⟨_,(ae (bu (mT (E:=E) zha (hr.mono nofun) rfl (b_ λ_ _ _ h=>h) (aa (al 0) (aa (al 1) (aa (al 2) (aa (bq (aa (al 3) (aa (al 4) ad))) ad))))))
   (ae (cM (al 0) (al 3) rfl)
   (ai (cM (al 0) (al 4) rfl)))),?_⟩
  walk_at "wp";refine⟨am ⋯,λl hl=>?_⟩;have m1:az H (au H l (.lst [V.str (tx o1),V.str (tx o2)])):=af hl;have e1:au H l (.lst [V.str (tx o1),V.str (tx o2)]) l=some (.lst (aH [o1,o2])):=ac;generalize au H l (.lst [V.str (tx o1),V.str (tx o2)])=H1 at m1 e1 ⊢;have hla:l≠a:=λe=>by rw[e,ha]at hl;cases hl
  refine⟨a,C,dx,l,n,c,[o1,o2],rfl,m1 _ _ ha,cl,n1,n2,n3,e1,by simp,λr hr=>?_,λok H2 sm2=>?_,λnok H2 sm2=>bad (λh=>nok h) _ (.of (m1.trans sm2))⟩
  ·have h3:r=n\/r=o1\/r=o2:=by simpa using hr
   rcases h3 with rfl | rfl | rfl
   ·exact hn
   ·exact ho1
   ·exact ho2
  ·have sx:bA a H (au H2 a (.ins C dx [("name",.str (tx n)),("cost",.int c),("part_names",.ref l)])):=(bA.of (m1.trans sm2)).put
   have ea:au H2 a (.ins C dx [("name",.str (tx n)),("cost",.int c),("part_names",.ref l)]) a=some (.ins C dx [("name",.str (tx n)),("cost",.int c),("part_names",.ref l)]):=ac;have el:au H2 a (.ins C dx [("name",.str (tx n)),("cost",.int c),("part_names",.ref l)]) l=some (.lst (aH [o1,o2])):=by rw[ao hla];exact sm2 _ _ e1
   generalize au H2 a (.ins C dx [("name",.str (tx n)),("cost",.int c),("part_names",.ref l)])=H3 at sx ea el ⊢
   try dsimp only
   refine⟨C,dx,_,ea,cl,n4,by simp,C,dx,_,ac,cl,n5,?_,?_⟩
   ·exact HH (cK _ _ _) (by simp)
   ·rw[kM,tT]
    exact good ok l _ sx.put hl (by rw[ao hla];exact el) ac
inductive eS(K:W.Frag)(CF:Addr)(vs:List V)(H:Hp)(Q:VK)(E:XK):Prop
 |mk (a C dx:Addr) (n o1:HY) (c t:Int) (_:vs=[.ref a,.str (tx n),.int c,.str (tx o1),.int t]) (_:H a=some (.ins C dx [])) (_:kS K C) (_:(aq K C "name"/\aq K C "cost"/\aq K C "part_names"/\aq K C "part"/\aq K C "turning")) (_:n.length<=100000) (_:o1.length<=100000) (_:(gp n [o1] c/\0<=t/\t<=7->∀(l:Addr) (H':Hp),bA a H H'->H l=none->H' l=some (.lst (aH [o1]))->H' a=some (.ins C dx [("name",.str (tx n)),("cost",.int c),("part_names",.ref l),("part",.str (tx o1)),("turning",.int t)])->Q .non H')) (_:(¬ (gp n [o1] c/\0<=t/\t<=7)->∀H',bA a H H'->E (.ref CF) none H'))
theorem yz{n o1:HY}{c t:Int}{l:Addr}:ce "turning" (V.int t) (ce "part" (V.str (tx o1)) [(("name":Str),V.str (tx n)),(("cost":Str),V.int c),(("part_names":Str),V.ref l)])=[(("name":Str),V.str (tx n)),(("cost":Str),V.int c),(("part_names":Str),V.ref l),(("part":Str),V.str (tx o1)),(("turning":Str),V.int t)]:=by
 have d1:¬ (("name":Str)="part"):=by decide +kernel
 have d2:¬ (("cost":Str)="part"):=by decide +kernel
 have d3:¬ (("part_names":Str)="part"):=by decide +kernel
 have d4:¬ (("name":Str)="turning"):=by decide +kernel
 have d5:¬ (("cost":Str)="turning"):=by decide +kernel
 have d6:¬ (("part_names":Str)="turning"):=by decide +kernel
 have d7:¬ (("part":Str)="turning"):=by decide +kernel
 simp only[ce,if_neg d1,if_neg d2,if_neg d3,if_neg d4,if_neg d5,if_neg d6,if_neg d7]
noncomputable abbrev dj:Stmt:=eW 28 0
theorem rD:ay ["self","name","cost","part","turning"] ["self","name","cost","part","turning"] (ak dj):=by walk_at "c"
theorem rQ{f zda:Addr}{fd:Ie}(F:cY K "__init__" "TurnRule.__init__" dj f fd)(nb:NB mg)(zEa:mg "NoRule"=some (.ref zda))(zza:XR K zda)
  (zha:xJ P w K mg base (b7 P w) 3 "Rule" "__init__" ["self","name","cost","part_names"] (cQ K zda)):aZ P w K mg base (b7 P w) 4 f fd ["self","name","cost","part","turning"] (eS K zda):=by
 have sc:=rD;walk_at "x"
 ·obtain⟨a,C,dx,n,o1,c,t,rfl,_⟩:=h;rfl
 ·obtain⟨a,C,dx,n,o1,c,t,rfl,ha,cl,⟨n1,n2,n3,n4,n5⟩,hn,ho1,good,bad⟩:=h
  refine⟨_,(ae (bu (mT (E:=E) zha (hr.mono nofun) rfl (b_ λ_ _ _ h=>h) (aa (al 0) (aa (al 1) (aa (al 2) (aa (bq (aa (al 3) ad)) ad))))))
   (ae (bj (PW.pt (my (aE (aW.m0 qd) (al 4) ah (aI _)) (kt (aE (aW.m0 ju) (al 4) ah (aI _)))))
   (ai (gK zza rfl rfl zEa (i6 λ_ _ _ h=>h) (bV ad)))
   aJ)
   (ae (cM (al 0) (al 3) rfl)
   (ai (cM (al 0) (al 4) rfl))))),?_⟩
  walk_at "wp";refine⟨am ⋯,λl hl=>?_⟩;have m1:az H (au H l (.lst [V.str (tx o1)])):=af hl;have e1:au H l (.lst [V.str (tx o1)]) l=some (.lst (aH [o1])):=ac;generalize au H l (.lst [V.str (tx o1)])=H1 at m1 e1 ⊢;have hla:l≠a:=λe=>by rw[e,ha]at hl;cases hl
  refine⟨a,C,dx,l,n,c,[o1],rfl,m1 _ _ ha,cl,n1,n2,n3,e1,by simp,λr hr=>?_,λok H2 sm2=>?_,λnok H2 sm2=>bad (λh=>nok h.1) _ (.of (m1.trans sm2))⟩
  ·have h3:r=n\/r=o1:=by simpa using hr
   rcases h3 with rfl | rfl
   ·exact hn
   ·exact ho1
  ·have sx:bA a H (au H2 a (.ins C dx [("name",.str (tx n)),("cost",.int c),("part_names",.ref l)])):=(bA.of (m1.trans sm2)).put
   have ea:au H2 a (.ins C dx [("name",.str (tx n)),("cost",.int c),("part_names",.ref l)]) a=some (.ins C dx [("name",.str (tx n)),("cost",.int c),("part_names",.ref l)]):=ac;have el:au H2 a (.ins C dx [("name",.str (tx n)),("cost",.int c),("part_names",.ref l)]) l=some (.lst (aH [o1])):=by rw[ao hla];exact sm2 _ _ e1
   generalize au H2 a (.ins C dx [("name",.str (tx n)),("cost",.int c),("part_names",.ref l)])=H3 at sx ea el ⊢
   try dsimp only
   by_cases t0:t<0
   ·rw[if_pos t0]
    exact⟨am ⋯,bad (λh=>by omega) _ sx⟩
   ·rw[if_neg t0]
    by_cases t7:7<t
    ·rw[if_pos t7]
     exact⟨am ⋯,bad (λh=>by omega) _ sx⟩
    ·rw[if_neg t7]
     refine⟨C,dx,_,ea,cl,n4,by simp,C,dx,_,ac,cl,n5,?_,?_⟩
     ·exact HH (cK _ _ _) (by simp)
     ·rw[kM,yz]
      exact good ⟨ok,⋯,⋯⟩ l _ sx.put hl (by rw[ao hla];exact el) ac
noncomputable abbrev cT:Stmt:=eW 24 1
inductive b0(K:W.Frag)(vs:List V)(H:Hp)(Q:VK)(_E:XK):Prop
 |mk (a C dx l:Addr) (fs:List (Str×V)) (ps:bz) (_:vs=[.ref a]) (_:H a=some (.ins C dx fs)) (_:kS K C) (_:aq K C "part_names") (_:fs.lookup ("part_names":Str)=some (V.ref l)) (_:H l=some (.lst (aH ps))) (_:c7 H ps Q)
theorem o5:ay ["self"] ["self"] (ak cT):=by walk_at "c"
theorem dP{f:Addr}{fd:Ie}(F:cY K "parts" "Rule.parts" cT f fd)(nb:NB mg):aZ P w K mg base bF 1 f fd ["self"] (b0 K):=by
 have sc:=o5;walk_at "f"
 ·obtain⟨a,C,dx,l,fs,ps,rfl,_⟩:=h;rfl
 ·obtain⟨a,C,dx,l,fs,ps,rfl,ha,cl,n1,lk,hl,q⟩:=h
  refine⟨_,(ai (aG (cw cg rfl nb.list fW (aa (aV (al 0) rfl) ad)))),?_⟩;walk_at "wp";refine⟨C,dx,fs,ha,cl,n1,V.ref l,lk,l,rfl,_,.inl (aN.of hl),λl' hl'=>q l' _ hl' ac (af hl')⟩
noncomputable abbrev BS(n:HY)(c:Int)(l:Addr)(sg:HY):List (Str×V):=[("name",.str (tx n)),("cost",.int c),("part_names",.ref l),("sign",.str (tx sg))]
noncomputable abbrev wB(n:HY)(c:Int)(l:Addr)(o1 o2:HY):List (Str×V):=[("name",.str (tx n)),("cost",.int c),("part_names",.ref l),("one",.str (tx o1)),("other",.str (tx o2))]
noncomputable abbrev BX(n:HY)(c:Int)(l:Addr)(o1:HY)(t:Int):List (Str×V):=[("name",.str (tx n)),("cost",.int c),("part_names",.ref l),("part",.str (tx o1)),("turning",.int t)]
theorem jG{r:HY}(h:cr r=true):1<=r.length/\r.length<=4:=by
 unfold cr at h;rw[Bool.and_eq_true,Bool.and_eq_true,decide_eq_true_eq,decide_eq_true_eq]at h;exact h.1
theorem pJ{r:HY}(h:iZ r=true):r.length=1:=by
 unfold iZ at h;rw[Bool.and_eq_true,decide_eq_true_eq]at h;exact h.1
theorem aj{a b:TS}{D:iJ}{σ:St}{H:Hp}(h:∀N:St->Hp->Prop,(∀σ2 H2,b D σ2 H2->N σ2 H2)->a {D with nx:=N} σ H):vn a b D σ H:=h (b D) λ_ _ z=>z
noncomputable abbrev l6:Stmt:=kD 48
inductive nW(vs:List V)(H:Hp)(Q:VK)(_E:XK):Prop
 |mk (i:Int) (_:vs=[.int i]) (_:Q (.bl true) H)
theorem u3:ay ["_law_x"] ["_law_x"] (ak l6):=by walk_at "c"
theorem vS{f:Addr}{fd:Ie}(F:cY K "_law_whole" "_law_whole" l6 f fd)(nb:NB mg):aZ P w K mg base bF 1 f fd ["_law_x"] nW:=by
 have sc:=u3;walk_at "f"
 ·obtain⟨i,rfl,_⟩:=h;rfl
 ·obtain⟨i,rfl,q⟩:=h
  refine⟨_,(ai (aG (nh (ax d_ rfl nb.isinstance gw (aa (al 0) (aa (wS (v:=.ty "int") rfl nb.int zG rfl) ad))) (qJ (vU (ax d_ rfl nb.isinstance gw (aa (al 0) (aa (wS (v:=.ty "bool") rfl nb.bool Bu rfl) ad)))))))),?_⟩;walk_at "wp";refine⟨_,jW.int i,_,zN K _,?_⟩;walk_at "wp";refine⟨_,jW.int i,_,rj K,?_⟩;exact q
structure RV where
 n:List Nat
 c:Int
 o1:List Nat
 o2:List Nat
 sg:List Nat
 t:Int
noncomputable abbrev Yaa:=List (Nat×RV)
structure RC where
 rr:Addr
 cc:Addr
 cb:Addr
 ca:Addr
 ct:Addr
noncomputable def RC.at(R:RC)(k:Nat):Addr:=match k with | 0=>R.cc | 1=>R.cb | 2=>R.ca | _=>R.ct
noncomputable def tW(k:Nat)(l:Addr)(v:RV):List (Str×V):=match k with | 0=>BS v.n v.c l v.sg | 1=>wB v.n v.c l v.o1 v.o2 | 2=>wB v.n v.c l v.o1 v.o2 | _=>BX v.n v.c l v.o1 v.t
noncomputable def bt(k:Nat)(v:RV):bz:=match k with | 0=>[] | 1=>[v.o1,v.o2] | 2=>[v.o1,v.o2] | _=>[v.o1]
def E2(k:Nat)(v:RV):Prop:=match k with | 0=>gp v.n [] v.c/\iZ v.sg=true | 1=>gp v.n [v.o1,v.o2] v.c | 2=>gp v.n [v.o1,v.o2] v.c | _=>gp v.n [v.o1] v.c/\0<=v.t/\v.t<=7
structure RV.small(v:RV):Prop where
 n:v.n.length<=1000
 o1:v.o1.length<=1000
 o2:v.o2.length<=1000
 sg:v.sg.length<=1000
structure RV.good(v:RV):Prop where
 n:cr v.n=true
 c1:1<=v.c
 c9:v.c<=9
 o1:cr v.o1=true
 o2:cr v.o2=true
 sg:iZ v.sg=true
 t0:0<=v.t
 t7:v.t<=7
theorem RV.good.small{v:RV}(g:v.good):v.small:=⟨by have:=jG g.n;omega,by have:=jG g.o1;omega,by have:=jG g.o2;omega,by have:=pJ g.sg;omega⟩
theorem RV.good.ok{v:RV}(g:v.good):∀k,E2 k v
 |0=>⟨⟨λr hr=>by rw[show r=v.n by simpa using hr];exact g.n,g.c1,g.c9⟩,g.sg⟩
 |1=>⟨λr hr=>by rcases(show r=v.n\/r=v.o1\/r=v.o2 by simpa using hr) with rfl | rfl | rfl<;>first | exact g.n | exact g.o1 | exact g.o2,g.c1,g.c9⟩
 |2=>⟨λr hr=>by rcases(show r=v.n\/r=v.o1\/r=v.o2 by simpa using hr) with rfl | rfl | rfl<;>first | exact g.n | exact g.o1 | exact g.o2,g.c1,g.c9⟩
 |_+3=>⟨⟨λr hr=>by rcases(show r=v.n\/r=v.o1 by simpa using hr) with rfl | rfl<;>first | exact g.n | exact g.o1,g.c1,g.c9⟩,g.t0,g.t7⟩
def cL(R:RC)(H:Hp)(k:Nat)(a:Addr)(v:RV):Prop:=∃dx l,H a=some (.ins (R.at k) dx (tW k l v))/\H l=some (.lst (aH (bt k v)))
theorem cL.up{R:RC}{H H':Hp}{k:Nat}{a:Addr}{v:RV}(r:cL R H k a v)(s:az H H'):cL R H' k a v:=by
 obtain⟨dx,l,h1,h2⟩:=r;exact⟨dx,l,s _ _ h1,s _ _ h2⟩
structure lD(K:W.Frag)(R:RC):Prop where
 i0:ia K R.cc
 i1:ia K R.cb
 i2:ia K R.ca
 i3:ia K R.ct
 a0:aq K R.cc "name"/\aq K R.cc "cost"/\aq K R.cc "part_names"/\aq K R.cc "sign"
 a1:aq K R.cb "name"/\aq K R.cb "cost"/\aq K R.cb "part_names"/\aq K R.cb "one"/\aq K R.cb "other"
 a2:aq K R.ca "name"/\aq K R.ca "cost"/\aq K R.ca "part_names"/\aq K R.ca "one"/\aq K R.ca "other"
 a3:aq K R.ct "name"/\aq K R.ct "cost"/\aq K R.ct "part_names"/\aq K R.ct "part"/\aq K R.ct "turning"
 r0:W.kitOne K (.ref R.cc) (.ref R.rr)=some true
 r1:W.kitOne K (.ref R.cb) (.ref R.rr)=some true
 r2:W.kitOne K (.ref R.ca) (.ref R.rr)=some true
 r3:W.kitOne K (.ref R.ct) (.ref R.rr)=some true
 s0:W.kitOne K (.ref R.cc) (.ref R.cc)=some true
 s1:W.kitOne K (.ref R.cb) (.ref R.cb)=some true
 s2:W.kitOne K (.ref R.ca) (.ref R.ca)=some true
 s3:W.kitOne K (.ref R.ct) (.ref R.ct)=some true
theorem lD.icls{R:RC}(rk:lD K R):∀k,ia K (R.at k)
 |0=>rk.i0
 |1=>rk.i1
 |2=>rk.i2
 |_+3=>rk.i3
theorem lD.name{R:RC}(rk:lD K R):∀k,aq K (R.at k) "name"/\aq K (R.at k) "cost"/\aq K (R.at k) "part_names"
 |0=>⟨rk.a0.1,rk.a0.2.1,rk.a0.2.2.1⟩
 |1=>⟨rk.a1.1,rk.a1.2.1,rk.a1.2.2.1⟩
 |2=>⟨rk.a2.1,rk.a2.2.1,rk.a2.2.2.1⟩
 |_+3=>⟨rk.a3.1,rk.a3.2.1,rk.a3.2.2.1⟩
theorem mQ(l:Addr)(v:RV):∀k,(tW k l v).lookup ("name":Str)=some (V.str (tx v.n))/\(tW k l v).lookup ("cost":Str)=some (V.int v.c)/\(tW k l v).lookup ("part_names":Str)=some (V.ref l)/\(tW k l v).lookup ("parts":Str)=none/\(tW k l v).lookup ("told":Str)=none
 |0=>⟨rfl,rfl,rfl,rfl,rfl⟩
 |1=>⟨rfl,rfl,rfl,rfl,rfl⟩
 |2=>⟨rfl,rfl,rfl,rfl,rfl⟩
 |_+3=>⟨rfl,rfl,rfl,rfl,rfl⟩
theorem cy{H1 H2:Hp}{x dx:Addr}{o o':HO}(hx:H1 x=none)(hd:H1 dx=none)(s:bA x (au (au H1 dx o) x o') H2):az H1 H2:=
 λb u e=>s b u (aA e hx) (by rw[ao (aA e hx),ao (aA e hd)];exact e)
theorem zZ{CX:j9}{k:Nat}{m:Str}{C0 C1 C2 C3:Addr}{s0 s1 s2 s3:Sp}(h0:∃ps,eM P w K mg base CX k C0 m ps s0)(h1:∃ps,eM P w K mg base CX k C1 m ps s1)(h2:∃ps,eM P w K mg base CX k C2 m ps s2)(h3:∃ps,eM P w K mg base CX k C3 m ps s3) :
  o8 P w K mg base CX k m [(C0,s0),(C1,s1),(C2,s2),(C3,s3)]:=⟨λo ho=>by
 simp only[Hi,List.not_mem_nil,or_false]at ho;rcases ho with rfl | rfl | rfl | rfl
 ·exact h0
 ·exact h1
 ·exact h2
 ·exact h3⟩
noncomputable def m5(K:W.Frag)(R:RC):List (Addr×Sp):=[(R.cc,b0 K),(R.cb,b0 K),(R.ca,b0 K),(R.ct,b0 K)]
theorem x4{R:RC}{H:Hp}{k a}{v:RV}{Q:VK}{E:XK}(rk:lD K R)(r:cL R H k a v)(q:c7 H (bt k v) Q) :
  ∃o∈m5 K R,∃dx fs,H a=some (.ins o.1 dx fs)/\fs.lookup ("parts":Str)=none/\o.2 [.ref a] H Q E:=by
 obtain⟨dx,l,h1,h2⟩:=r;have key:b0 K [.ref a] H Q E:=⟨a,R.at k,dx,l,_,_,rfl,h1,(rk.icls k).cl,(rk.name k).2.2,(mQ l v k).2.2.1,h2,q⟩;have mem:(R.at k,b0 K)∈m5 K R:=by
  unfold m5
  match k with
  |0=>simp[RC.at]
  |1=>simp[RC.at]
  |2=>simp[RC.at]
  |_+3=>simp[RC.at]
 exact⟨_,mem,dx,_,h1,(mQ l v k).2.2.2.1,key⟩
noncomputable abbrev i5:Stmt:=kD 41
noncomputable abbrev iN:Str:="abcdefghijklmnopqrstuvwxyz"
noncomputable def cZ(r:HY):Bool:=decide (1<=r.length)&&decide (r.length<=4)&&fZ r iN&&decide ((met (b8 (tx r))).length=r.length)
inductive ly(vs:List V)(H:Hp)(Q:VK)(_E:XK):Prop
 |mk (r:HY) (_:vs=[.str (tx r)]) (_:r.length<=1000) (_:∀H',az H H'->Q (.bl (cZ r)) H')
theorem rM:ay ["text"] ["text"] (ak i5):=by walk_at "c"
theorem rT{f:Addr}{fd:Ie}{t1 t2:Tok}(F:cY K "are_signs" "are_signs" i5 f fd)(nb:NB mg)(yaN:mg "MOST_SIGNS"=some (.int 4 t1))(yai:mg "SMALLS"=some (.str "abcdefghijklmnopqrstuvwxyz" t2))(yaf:fF P w K mg base bF 1 "only_of" ["text","letters"] h_):aZ P w K mg base bF 2 f fd ["text"] ly:=by
 have sc:=rM;walk_at "f"
 ·obtain⟨r,rfl,_⟩:=h;rfl
 ·obtain⟨r,rfl,hr',q⟩:=h
  refine⟨_,(ai (aG (nh (tH (aW.m0 nR) (aW.m0 nR) ah (ax aS rfl nb.len aR (aa (al 0) ad)) (eJ (v:=.int 4) rfl yaN ⟨_,rfl⟩)) (nh (aK yaf (hr.mono nofun) rfl bg (aa (al 0) (aa (eJ (v:=.str "abcdefghijklmnopqrstuvwxyz") rfl yai ⟨_,rfl⟩) ad))) (qJ (hV cI (yl rfl (al 0) rfl nb.len rfl nb.set) (ax aS rfl nb.len aR (aa (al 0) ad)) (aI _))))))),?_⟩;walk_at "wp";refine⟨by rw[aw];exact am ⋯,?_⟩;rw[aw];unfold cZ at q
  by_cases h1:1<=r.length
  ·rw[if_pos ⋯]
   by_cases h2:r.length<=4
   ·rw[if_pos ⋯]
    refine⟨r,_,rfl,⋯,λH' sm=>⟨_,rfl,?_⟩⟩;have z:=q H' sm;rw[decide_eq_true h1,decide_eq_true h2]at z;cases ho:fZ r iN with
    |false=>
     rw[ho]at z;rw[if_neg (by simp)];exact z
    |true=>
     rw[ho]at z;rw[if_pos rfl];refine⟨by rw[Ep];unfold scanBound;omega,by exact am ⋯,?_⟩;have e:decide (((met (b8 (tx r))).length:Int)=(r.length:Int))=decide ((met (b8 (tx r))).length=r.length):=by
      apply decide_eq_decide.mpr
      constructor<;>intro h<;>omega
     rw[e];exact z
   ·rw[if_neg ⋯]
    have z:=q H (λ_ _ e=>e);rw[decide_eq_true h1,decide_eq_false h2]at z;exact z
  ·rw[if_neg ⋯]
   have z:=q H (λ_ _ e=>e);rw[decide_eq_false h1]at z;exact z
noncomputable def Df(y:Str×List Int):List V:=.str y.1::y.2.map V.int
theorem zB{α:Type}{l:List α}{i:Nat}{x:α}(h:l[i]?=some x):l.drop i=x::l.drop (i+1):=by
 obtain⟨hi,e⟩:=G5.mp h;rw[List.drop_eq_getElem_cons hi,e]
def vK(C:Addr)(H:Hp)(y:Str×List Int)(E:XK):Prop:=∀(t d:Addr) (H':Hp),az H H'->H' t=some (.tup (Df y))->H' d=some (.xd [("why",.ref t)])->E (.ref C) (some d) H'
theorem vK.made{C:Addr}{H H':Hp}{y:Str×List Int}{E:XK}(b:vK C H y E)(sm:az H H'){p d:Addr}(hp:H' p=none)(hd:au H' p (.tup (Df y)) d=none):E (.ref C) (some d) (au (au H' p (.tup (Df y))) d (.xd [("why",.ref p)])):=by
 have hdp:p≠d:=λx=>by rw[<- x,ac]at hd;cases hd
 exact b p d _ ((sm.trans (af hp)).trans (af hd)) (by rw[ao hdp,ac]) ac
structure BT(K:W.Frag)(R:RC):Prop where
 kit:∀i j,i<4->j<4->W.kitOne K (.ref (R.at i)) (.ref (R.at j))=some (decide (i=j))
noncomputable abbrev jJ:Stmt:=eW 5 0
theorem AM:ay ["self","why"] ["self","why"] (ak jJ):=by walk_at "c"
theorem AC{f C:Addr}{fd:Ie}(F:cY K "__init__" "NoGrammar.__init__" jJ f fd)(xs:W.XSt K C "why"):aZ P w K mg base bF 1 f fd ["self","why"] (mU C "why"):=by
 have sc:=AM;walk_at "f"
 ·obtain⟨a,v,rfl,_⟩:=h;rfl
 ·obtain⟨a,v,rfl,ha,q⟩:=h
  refine⟨_,(ai (Bt (pv 0) (pv 1) rfl)),?_⟩;walk_at "wp";exact⟨C,ha,xs,λd hd=>q d hd⟩
noncomputable abbrev DY(z x:Str):Bool:=!(Builtin.Str.occurrences z x 0 z.length 1).isEmpty
noncomputable def f'(sg:Str):Yaa->Nat->Option Nat
 | [],_=>none
 |r::rs,j=>if r.1=0/\DY sg (tx r.2.sg)=false then some j else f' sg rs (j+1)
noncomputable def iw(sg st:HY)(rs:Yaa):Option (Str×List Int):=
 if cZ sg=false then some ("signs",[]) else if cr st=false then some ("start",[]) else if 24<rs.length then some ("rules",[(rs.length:Int)]) else
  match f' (tx sg) rs 0 with
  |some k=>some ("sign",[(k:Int)])
  |none=>none
noncomputable abbrev d8:Stmt:=kD 40
def bo(R:RC)(H:Hp)(as:Ib)(rs:Yaa):Prop:=as.length=rs.length/\∀(i:Nat) a r,as[i]?=some a->rs[i]?=some r->cL R H r.1 a r.2
theorem bo.up{R:RC}{H H':Hp}{as:Ib}{rs:Yaa}(h:bo R H as rs)(s:az H H'):bo R H' as rs:=⟨h.1,λi a r e1 e2=>(h.2 i a r e1 e2).up s⟩
inductive g9(R:RC)(C:Addr)(vs:List V)(H:Hp)(Q:VK)(E:XK):Prop
 |mk (sg st:HY) (a:Addr) (as:Ib) (rs:Yaa) (_:vs=[.str (tx sg),.str (tx st),.ref a]) (_:sg.length<=1000) (_:st.length<=1000) (_:H a=some (.lst (as.map V.ref))) (_:bo R H as rs) (_:(∀r∈rs,r.1<4)) (_:rs.length<=100) (_:(iw sg st rs=none->∀H',az H H'->Q .non H')) (_:∀y,iw sg st rs=some y->vK C H y E)
theorem lF:ay ["signs","start","rules","k","rule"] ["signs","start","rules"] (ak d8):=by walk_at "c"
theorem lY{R:RC}{f zca:Addr}{fd:Ie}{t1:Tok}(F:cY K "check_made_of" "check_made_of" d8 f fd)(nb:NB mg)(rk:lD K R)(rk4:BT K R)(yaG:mg "MOST_RULES"=some (.int 24 t1))(zPb:mg "CellRule"=some (.ref R.cc))
  (zxa:mg "NoGrammar"=some (.ref zca)) (zqa:XI P w K mg base 1 zca "why") (yaD:fF P w K mg base bF 2 "are_signs" ["text"] ly) (yaj:fF P w K mg base bF 2 "is_name" ["text"] kj):aZ P w K mg base (b7 P w) 3 f fd ["signs","start","rules"] (g9 R zca):=by
 have sc:=lF;walk_at "x"
 ·obtain⟨sg,st,a,as,rs,rfl,_⟩:=h;rfl
 ·obtain⟨sg,st,a,as,rs,rfl,hsg,hst,ha,hrs,hk4,hn,good,bad⟩:=h
  refine⟨_,(ae (bj (kF (iy (aK (CX:=b7 P w) yaD.lift (hr.mono nofun) rfl bf (aa (al 0) ad)) λ_=>rfl))
   (ai (gU zqa (hr.mono nofun) rfl rfl zxa (gJ λ_ _ _ h=>h) (aa (aY (bV ad)) ad)))
   aJ)
   (ae (bj (kF (iy (aK (CX:=b7 P w) yaj.lift (hr.mono nofun) rfl bf (aa (al 1) ad)) λ_=>rfl))
   (ai (gU zqa (hr.mono nofun) rfl rfl zxa (gJ λ_ _ _ h=>h) (aa (aY (bV ad)) ad)))
   aJ)
   (ae (bj (aE (aW.m0 ju) (ax aU rfl nb.len aR (aa (al 2) ad)) (eJ (v:=.int 24) rfl yaG ⟨_,rfl⟩) (aI _))
   (ai (gU zqa (hr.mono nofun) rfl rfl zxa (gJ λ_ _ _ h=>h) (aa (aY (bV (aa (ax aU rfl nb.len aR (aa (al 2) ad)) ad))) ad)))
   aJ)
   (ai (bD PassesOwn.leaving rfl (rg rfl nb.enumerate (aa (al 2) ad)) (gI (n:=2) rfl (aL (av (i:=3) sc.nd rfl (Or.inl rfl)) (aL (av (i:=4) sc.nd rfl (Or.inl rfl)) c_)))
   (ai (bj (PW.pt (kC (iy (ax d_ rfl nb.isinstance gw (aa (al 4) (aa (eJ (v:=.ref _) rfl zPb rfl) ad))) λ_=>rfl) (kX (aE qL (aV (al 4) rfl) (al 0) (by with_unfolding_all rfl)))))
   (ai (gU zqa (hr.mono nofun) rfl rfl zxa (gJ λ_ _ _ h=>h) (aa (aY (bV (aa (al 3) ad))) ad)))
   aJ))))))),?_⟩
  have tupw:∀(H':Hp) (y:Str×List Int),az H H'->iw sg st rs=some y->∀p,H' p=none->1<=sizeLine/\∀d,au H' p (.tup (Df y)) d=none->E (.ref zca) (some d) (au (au H' p (.tup (Df y))) d (.xd [("why",.ref p)])):=
   λH' y sm hy p hp=>⟨am ⋯,λd hd=>(bad y hy).made sm hp hd⟩
  walk_at "n";refine⟨sg,rfl,hsg,λH1 sm1=>⟨_,rfl,?_⟩⟩;unfold iw at good tupw;cases e1:cZ sg with
  |false=>
   rw[if_pos rfl];rw[if_pos e1]at tupw;exact⟨am ⋯,tupw H1 _ sm1 rfl⟩
  |true=>
  rw[if_neg nofun];rw[if_neg (by rw[e1];decide)]at good tupw;refine h1 _ _ ?_;clear h1;walk_at "o";refine⟨st,rfl,⋯,λH2 sm2=>⟨_,rfl,?_⟩⟩;have sm12:=sm1.trans sm2;cases e2:cr st with
  |false=>
   rw[if_pos rfl];rw[if_pos e2]at tupw;exact⟨am ⋯,tupw H2 _ sm12 rfl⟩
  |true=>
  rw[if_neg nofun];rw[if_neg (by rw[e2];decide)]at good tupw;refine h2 _ _ ?_;clear h2;have ha2:=sm12 _ _ ha;have hal:(as.map V.ref).length=rs.length:=by rw[G7];exact hrs.1
  refine aj λN3 h3=>?_;walk_at "wp";refine⟨_,aN.of ha2,?_⟩;rw[hal]
  by_cases h24:24<rs.length
  ·rw[if_pos ⋯]
   rw[if_pos h24]at tupw;refine⟨_,aN.of ha2,am ⋯,?_⟩;rw[hal];exact tupw H2 _ sm12 rfl
  rw[if_neg ⋯];rw[if_neg h24]at good tupw;refine h3 _ _ ?_;clear h3;walk_at "wp";refine⟨_,aN.of ha2,?_⟩;refine pO (xs:=as.map V.ref) (λi σ H'=>az H H'/\f' (tx sg) (rs.drop i) i=f' (tx sg) rs 0/\∃x y,σ=[some (.str (tx sg)),some (.str (tx st)),some (.ref a),x,y]) ⟨sm12,rfl,_,_,rfl⟩ ?_ ?_ ?_
  ·rintro i σ H' _ ⟨sm,_⟩
   exact aN.of (sm _ _ ha)
  ·rintro i x σ H3 T hx ⟨sm,hb,x1,y1,rfl⟩ hT
   have hlt:i<rs.length:=by have:=(G5.mp hx).1;rw[hal]at this;exact this
   obtain⟨ra,hra,rfl⟩:∃ra,as[i]?=some ra/\V.ref ra=x:=by
    rw[G9]at hx;cases e:as[i]? with
    |none=>rw[e]at hx;cases hx
    |some ra=>rw[e]at hx;exact⟨ra,rfl,Option.some.inj hx⟩
   have hrr:rs[i]?=some rs[i]:=G4 hlt;have hr4:=hk4 _ (Hc hlt);generalize rs[i]=r at hrr hr4;rw[zB hrr]at hb;have smT:az H (au H3 T (.tup [V.int (i:Int),V.ref ra])):=sm.trans (af hT);have eT:au H3 T (.tup [V.int (i:Int),V.ref ra]) T=some (.tup [V.int (i:Int),V.ref ra]):=ac;generalize au H3 T (.tup [V.int (i:Int),V.ref ra])=H4 at smT eT ⊢;have rr:=(hrs.2 i ra r hra hrr).up smT;obtain⟨dx,pl,hra4,_⟩:=id rr;walk_at "wp";refine⟨_,bx.of eT,rfl,_,_,rfl,_,_,rfl,rfl,?_⟩;refine⟨_,(rk.icls r.1).ty hra4,_,rk4.kit r.1 0 hr4 nofun,?_⟩;have hb':(if r.1=0/\DY (tx sg) (tx r.2.sg)=false then some i else f' (tx sg) (rs.drop (i+1)) (i+1))=f' (tx sg) rs 0:=hb
   by_cases e0:r.1=0
   ·rw[if_pos (by simp[e0])]
    obtain⟨r0,v⟩:=r;have e0':r0=0:=e0;subst e0';refine⟨ra,rfl,_,_,_,hra4,rk.i0.cl,rk.a0.2.2.2,_,rfl,_,rfl,?_⟩;cases hin:DY (tx sg) (tx v.sg) with
    |false=>
     rw[if_pos hin];rw[if_pos ⟨rfl,hin⟩]at hb';rw[<- hb']at tupw;exact⟨am ⋯,tupw H4 _ smT rfl⟩
    |true=>
     rw[if_neg (by rw[show(!(Builtin.Str.occurrences (tx sg) (tx v.sg) 0 (tx sg).length 1).isEmpty)=true from hin];decide)];rw[if_neg (λz=>by rw[hin]at z;exact absurd z.2 nofun)]at hb';exact⟨smT,hb'⟩
   ·rw[if_neg (by simp[e0])]
    rw[if_neg (λz=>e0 z.1)]at hb';exact⟨smT,hb'⟩
  ·rintro σ H' ⟨sm,hb,x,y,rfl⟩
   walk_at "wp";rw[hal,List.drop_of_length_le (Hr _)]at hb;refine good ?_ H' sm;rw[<- hb];rfl
noncomputable def iA(m:List (Str×List Nat))(z:Str)(i:Nat):List (Str×List Nat):=m.map λq=>if q.1=z then(q.1,q.2++[i]) else q
structure qC(H0:Hp)(p:Addr)(t:NT)(H:Hp):Prop where
 same:az H0 H
 at_:cJ H p t
 fresh:∀x∈t,H0 x.2.1=none
 nodup:((jc t).map (·.1)).Nodup
theorem oJ(t:NT):(jc t).length=t.length:=by unfold jc;rw[G7]
theorem o0(m:List (Str×List Nat))(z:Str):(bH m z).length<=m.length+1:=by
 unfold bH;split
 ·omega
 ·rw[Hq];simp
theorem ic(m:List (Str×List Nat))(z:Str)(i:Nat):(iA m z i).map (·.1)=m.map (·.1):=by
 unfold iA;rw[Hh]
 apply List.map_congr_left;intro q _;simp only[Function.comp]
 split<;>rfl
theorem xv{m:List (Str×List Nat)}{j i:Nat}{q:Str×List Nat}(nd:(m.map (·.1)).Nodup)(hj:m[j]?=some q):m.set j (q.1,q.2++[i])=iA m q.1 i:=by
 unfold iA;apply List.ext_getElem?;intro k;rw[G9,List.getElem?_set];have hlt:j<m.length:=(G5.mp hj).1
 by_cases e:j=k
 ·subst e
  rw[if_pos rfl,if_pos hlt,hj];simp
 ·rw[if_neg e]
  cases hk:m[k]? with
  |none=>rfl
  |some y=>
   have hne:y.1≠q.1:=by
    intro h;have h1:(m.map (·.1))[j]?=some q.1:=by rw[G9,hj];rfl
    have h2:(m.map (·.1))[k]?=some q.1:=by rw[G9,hk];simp[h]
    exact e ((List.getElem?_inj (G5.mp h1).1 nd).mp (h1.trans h2.symm))
   simp[hne]
theorem qC.free{H0 H:Hp}{p:Addr}{t:NT}(N:qC H0 p t H){l:Addr}(h:H l=none):H0 l=none:=N.same.free h
theorem mj{te:TE}{σ:St}{H0 H:Hp}{p:Addr}{t:NT}{z:Str}{i:Nat}{Q:VK}(hp:H0 p=none)(hv:σ[i]?=some (some (.ref p)))(hte:∀R:VK,R (.str z) H->te σ H R)(N:qC H0 p t H)(hn:t.length<sizeLine)
  (h:∀(H':Hp) (t':NT) (j:Nat) (x:Str×Addr×List Nat),qC H0 p t' H'->t'[j]?=some x->x.1=z->jc t'=bH (jc t) z->t'.length<=t.length+1->(∀a o,a≠p->H a=some o->H' a=some o)->Q (.ref x.2.1) H'):sJ (uJ i) te (ze oZ) σ H Q:=by
 refine⟨.ref p,hv,p,rfl,.inl ⟨_,.inl N.at_.dict⟩,hte _ ⟨Hs _,λl hl=>?_⟩⟩;have hl0:=N.free hl;refine N.at_.setdef hl hn λH' t' j x N' hj hx hm hy hk=>h H' t' j x ⟨λb o e=>hk b o (λq=>by rw[q,hp]at e;exact nomatch e) (N.same b o e),N',λy hyy=>?_,?_⟩ hj hx hm ?_ hk
 ·rcases hy y hyy with q | q
  ·exact N.fresh y q
  ·rw[q];exact hl0
 ·rw[hm];exact lx N.nodup
 ·have:=o0 (jc t) z
  rw[<- hm,oJ,oJ]at this;exact this
theorem qC.put{H0 H:Hp}{p:Addr}{t:NT}{j k:Nat}{x:Str×Addr×List Nat}(N:qC H0 p t H)(hj:t[j]?=some x) :
  qC H0 p (t.set j (x.1,x.2.1,x.2.2++[k])) (au H x.2.1 (.lst (uw (x.2.2++[k]))))/\jc (t.set j (x.1,x.2.1,x.2.2++[k]))=iA (jc t) x.1 k:=by
 have hm:=G_ hj;have e:jc (t.set j (x.1,x.2.1,x.2.2++[k]))=iA (jc t) x.1 k:=by
  rw[BP];exact xv (q:=(x.1,x.2.2)) N.nodup (by unfold jc;rw[G9,hj];rfl)
 refine⟨⟨dI N.same (N.fresh x hm),N.at_.put hj,λy hy=>?_,?_⟩,e⟩
 ·rcases List.mem_or_eq_of_mem_set hy with q | q
  ·exact N.fresh y q
  ·rw[q];exact N.fresh x hm
 ·rw[e,ic];exact N.nodup
noncomputable abbrev dv:Stmt:=kD 42
theorem kz:ay ["start","rules","numbers","k","rule","part"] ["start","rules"] (ak dv):=by walk_at "c"
noncomputable def dQ(m:List (Str×List Nat))(i:Nat)(r:Nat×RV):List (Str×List Nat):=((bt r.1 r.2).map tx).foldl bH (iA (bH m (tx r.2.n)) (tx r.2.n) i)
noncomputable def fC:Nat->Yaa->List (Str×List Nat)->List (Str×List Nat)
 |_,[],m=>m
 |i,r::rs,m=>fC (i+1) rs (dQ m i r)
theorem kI{m:List (Str×List Nat)}{z:Str}{n:Nat}(h:∀q∈m,q.2.length<=n):∀q∈bH m z,q.2.length<=n:=by
 unfold bH;split
 ·exact h
 ·intro q hq
  rcases Hg.mp hq with z1 | z1
  ·exact h q z1
  ·rw[G8.mp z1];exact Hs _
theorem mn:∀{zs:Ih} {m:List (Str×List Nat)} {n:Nat},(∀q∈m,q.2.length<=n)->∀q∈zs.foldl bH m,q.2.length<=n
 | [],_,_,h=>h
 |z::zs,_,_,h=>mn (zs:=zs) (kI h)
theorem tX{m:List (Str×List Nat)}{i n:Nat}{r:Nat×RV}(h:∀q∈m,q.2.length<=n):∀q∈dQ m i r,q.2.length<=n+1:=by
 unfold dQ;refine mn λq hq=>?_;unfold iA at hq;obtain⟨q0,hq0,rfl⟩:=HJ.mp hq;have:=kI h q0 hq0
 split
 ·rw[Hq];simp;exact this
 ·omega
theorem nj:∀{rs:Yaa} {i n:Nat} {m:List (Str×List Nat)},(∀q∈m,q.2.length<=n)->∀q∈fC i rs m,q.2.length<=n+rs.length
 | [],_,_,_,h=>h
 |r::rs,i,n,m,h=>λq hq=>by
  have:=nj (rs:=rs) (i:=i+1) (tX (i:=i) (r:=r) h) q hq;rw[He];omega
theorem fU:∀{rs:Yaa} {i:Nat} {m:List (Str×List Nat)} {r:Nat×RV},fC i (rs++[r]) m=dQ (fC i rs m) (i+rs.length) r
 | [],i,m,r=>rfl
 |r0::rs,i,m,r=>by
  show fC (i+1) (rs++[r]) (dQ m i r0)=dQ (fC (i+1) rs (dQ m i r0)) (i+(rs.length+1)) r;rw[fU,show i+1+rs.length=i+(rs.length+1) by omega]
theorem uy(k:Nat)(v:RV):(bt k v).length<=2:=by
 match k with
 |0=>simp[bt]
 |1=>simp[bt]
 |2=>simp[bt]
 |_+3=>simp[bt]
noncomputable def bd(z:Str)(rs:Yaa):List (Str×List Nat):=fC 0 rs [(z,[])]
inductive fG(K:W.Frag)(R:RC)(vs:List V)(H:Hp)(Q:VK)(_E:XK):Prop
 |mk (z:Str) (a:Addr) (as:Ib) (rs:Yaa) (_:vs=[.str z,.ref a]) (_:H a=some (.lst (as.map V.ref))) (_:bo R H as rs) (_:rs.length<=100) (_:∀p H' t,H p=none->cJ H' p t->jc t=bd z rs->(∀x∈t,H x.2.1=none)->az H H'->Q (.ref p) H')
theorem kh{R:RC}{f:Addr}{fd:Ie}(F:cY K "numbers_by_name" "numbers_by_name" dv f fd)(nb:NB mg)(rk:lD K R)(yaI:o8 P w K mg base bF 1 "parts" (m5 K R)):aZ P w K mg base bF 2 f fd ["start","rules"] (fG K R):=by
 have sc:=kz;walk_at "f"
 ·obtain⟨r,a,_,_,rfl,_⟩:=h;rfl
 ·obtain⟨z,a,as,rs,rfl,ha,hrs,hn,q⟩:=h
  refine⟨_,(ae (aB (i:=2) sc.nd rfl (Or.inl rfl) (A3 (AK (pv 0) (bq ad) AQ) rfl rfl (by simp) nofun))
   (ae (bD PassesOwn.never rfl (rg rfl nb.enumerate (aa (pv 1) ad)) (gI (n:=2) rfl (aL (av (i:=3) sc.nd rfl (Or.inl rfl)) (aL (av (i:=4) sc.nd rfl (Or.inl rfl)) c_)))
   (ae (bu (gX PySem.F.plainAttrs_list PySem.F.slot_list_append PySem.F.type_list_append cA (nV (pv 2) (aV (pv 4) rfl) (bq ad) ⟨rfl,rfl,rfl,rfl⟩) (aa (pv 3) ad)))
   (ai (bD PassesOwn.never rfl (bX (yF yaI (hr.mono nofun) bg (pv 4))) (av (i:=5) sc.nd rfl (Or.inl rfl))
   (ai (bu (nV (pv 2) (pv 5) (bq ad) ⟨rfl,rfl,rfl,rfl⟩)))))))
   (ai (aG (pv 2))))),?_⟩
  walk_at "wp";intro p hp;refine⟨Hs _,λl hl=>?_⟩;have hlp:l≠p:=λe=>by rw[e,ac]at hl;exact nomatch hl
  have hl0:H l=none:=by rw[ao hlp]at hl;exact hl
  have hap:a≠p:=λe=>by rw[e,hp]at ha;exact nomatch ha
  have hal:a≠l:=λe=>by rw[e,hl0]at ha;exact nomatch ha
  refine⟨by rw[ao (Ne.symm hlp),ac],[(.inr z,.ref l)],rfl,by simp,as.map V.ref,aN.of (by rw[ao hap,ao hal,ao hap];exact ha),?_⟩;refine pO (xs:=as.map V.ref) (λi σ H'=>az H H'/\∃t,cJ H' p t/\(∀x∈t,H x.2.1=none)/\((jc t).map (·.1)).Nodup/\jc t=fC 0 (rs.take i) [(z,[])]/\t.length<=1+3*i/\∃x y u,σ=[some (.str z),some (.ref a),some (.ref p),x,y,u]) ?_ ?_ ?_ ?_
  ·refine⟨λb o e=>?_,[(z,l,[])],⟨by rw[ac];rfl,λx hx=>?_,by simp⟩,λx hx=>?_,by simp[jc],rfl,by simp,_,_,_,rfl⟩
   ·have h1:b≠p:=λq=>by rw[q,hp]at e;exact nomatch e
    have h2:b≠l:=λq=>by rw[q,hl0]at e;exact nomatch e
    rw[ao h1,ao h2,ao h1];exact e
   ·rw[G8.mp hx,ao hlp,ac];rfl
   ·rw[G8.mp hx];exact hl0
  ·rintro i σ H' _ ⟨sm,_⟩
   exact aN.of (sm _ _ ha)
  ·rintro i x σ H1 T hx ⟨sm,t,N,fr,nd,em,hlen,x1,y1,u1,rfl⟩ hT
   have hlt:i<rs.length:=by have:=(G5.mp hx).1;rw[G7,hrs.1]at this;exact this
   obtain⟨ra,hra,rfl⟩:∃ra,as[i]?=some ra/\V.ref ra=x:=by
    rw[G9]at hx;cases e:as[i]? with
    |none=>rw[e]at hx;cases hx
    |some ra=>rw[e]at hx;exact⟨ra,rfl,Option.some.inj hx⟩
   have hrr:rs[i]?=some rs[i]:=G4 hlt;generalize rs[i]=r at hrr;have rr:=hrs.2 i ra r hra hrr;have smT:az H (au H1 T (.tup [V.int (i:Int),V.ref ra])):=sm.trans (af hT);have gT:∀b o,H1 b=some o->au H1 T (.tup [V.int (i:Int),V.ref ra]) b=some o:=af hT;have eT:bx K (au H1 T (.tup [V.int (i:Int),V.ref ra])) T [V.int (i:Int),V.ref ra]:=bx.of ac;have N2:=N.grow gT;generalize au H1 T (.tup [V.int (i:Int),V.ref ra])=H2 at smT gT eT N2 ⊢;clear gT N hT sm H1;simp only[wV,sH,j_,yx];refine⟨_,_,rfl,eT,rfl,_,_,rfl,_,_,rfl,rfl,?_⟩;refine aj λN1 h1=>?_;have rr2:=rr.up smT;have NI:qC H p t H2:=⟨smT,N2,fr,nd⟩;have hz:sizeLine>1000:=bb nofun;obtain⟨dx,pl,hra2,_⟩:=id rr2;walk_at "wp";refine mj (z:=tx r.2.n) hp rfl (λS hS=>⟨_,rfl,ra,_,dx,_,_,rfl,hra2,(rk.icls r.1).cl,(rk.name r.1).1,(mQ pl r.2 r.1).1,hS⟩) NI ⋯ λH3 t3 j x N3 hj hx hm hl3 hk=>?_;have hxl:=N3.at_.list x (G_ hj);refine⟨.inl ⟨rfl,_,aN.of hxl⟩,_,rfl,_,hxl,?_,h1 _ _ ?_⟩
   ·have h2:(x.1,x.2.2)∈bH (jc t) (tx r.2.n):=by rw[<- hm];exact HJ.mpr ⟨x,G_ hj,rfl⟩
    have h3:=kI (nj (rs:=rs.take i) (i:=0) (n:=0) (m:=[(z,[])]) (λq hq=>by rw[G8.mp hq];exact Hs _)) (z:=tx r.2.n) (x.1,x.2.2) (by rw[<- em];exact h2);rw[HF]at h3;unfold uw;rw[G7];have h4:x.2.2.length<=100:=by simp at h3;omega
    omega
   clear h1;obtain⟨N4,hm4⟩:=N3.put (k:=i) hj;have hl4:(t3.set j (x.1,x.2.1,x.2.2++[i])).length<=t.length+1:=by rw[List.length_set];exact hl3
   have hm4:jc (t3.set j (x.1,x.2.1,x.2.2++[i]))=iA (bH (jc t) (tx r.2.n)) (tx r.2.n) i:=by rw[hm4,hm,hx]
   have eI:uw (x.2.2++[i])=uw x.2.2++[V.int (i:Int)]:=by unfold uw;rw[Hf];rfl
   rw[eI]at N4;generalize t3.set j (x.1,x.2.1,x.2.2++[i])=t4 at N4 hm4 hl4;generalize au H3 x.2.1 (.lst (uw x.2.2++[V.int (i:Int)]))=H4 at N4 ⊢;clear hk hxl hj N3 hm hl3 hx NI N2 hra2 rr2;have rr4:=rr.up N4.same;have hpk:=uy r.1 r.2;walk_at "wp";refine x4 rk rr4 λlp H5 hlp hH5 sm5=>⟨lp,rfl,⟨_,aN.of hH5⟩,?_⟩;have hpp:lp≠p:=λe=>by rw[e,N4.at_.dict]at hlp;exact nomatch hlp
   refine cR (xs:=aH (bt r.1 r.2)) (λn σ H'=>n<=(bt r.1 r.2).length/\∃t',qC H p t' H'/\jc t'=(((bt r.1 r.2).take n).map tx).foldl bH (iA (bH (jc t) (tx r.2.n)) (tx r.2.n) i)/\t'.length<=t.length+1+n/\H' lp=some (.lst (aH (bt r.1 r.2)))/\∃u,σ=[some (.str z),some (.ref a),some (.ref p),some (.int (i:Int)),some (.ref ra),u])
    ⟨Hs _,t4,⟨N4.same.trans sm5,N4.at_.grow sm5,N4.fresh,N4.nodup⟩,hm4,hl4,hH5,_,rfl⟩ ?_ ?_ ?_
   ·rintro n σ H' _ ⟨_,t',_,_,_,hH',_⟩
    exact aN.of hH'
   ·rintro n v σ H' hv ⟨hn1,t',N',hm',hl',hH',u,rfl⟩
    have hnl:n<(bt r.1 r.2).length:=by have:=(G5.mp hv).1;rwa [aC]at this
    rw[bw hnl]at hv;cases hv;walk_at "wp";refine mj (z:=tx (bt r.1 r.2)[n]) hp rfl (λS hS=>⟨_,rfl,hS⟩) N' ⋯ λH6 t6 j x N6 hj hx hm6 hl6 hk=>?_;refine⟨hnl,t6,N6,?_,⋯,hk _ _ hpp hH'⟩;rw[hm6,hm',List.take_add_one,G4 hnl,Hf,List.foldl_append]
    rfl
   ·rintro σ H' ⟨_,t',N',hm',hl',hH',u,rfl⟩
    rw[aC,HE]at hm';refine⟨N'.same,t',N'.at_,N'.fresh,N'.nodup,?_,?_,_,_,_,rfl⟩
    ·rw[hm',List.take_add_one,hrr,em]
     show _=fC 0 (rs.take i++[r]) _;rw[fU,HF,HS (Nat.le_of_lt hlt),Nat.zero_add]
     rfl
    ·rw[aC]at hl';omega
  ·rintro σ H' ⟨sm,t,N,fr,_,em,_,x,y,u,rfl⟩
   walk_at "wp";refine q p H' t hp N ?_ fr sm;rw[em,G7,hrs.1,HE];rfl
noncomputable def fK(sg st:HY)(rs:Yaa):Option (Str×List Int):=
 match iw sg st rs with
 |some y=>some y
 |none=>if 8<(bd (tx st) rs).length then some ("names",[((bd (tx st) rs).length:Int)]) else none
noncomputable def gz(sg st:HY)(lk pn:Addr):List (Str×V):=[("signs",.str (tx sg)),("start",.str (tx st)),("kept",.ref lk),("numbers",.ref pn)]
def dX(R:RC)(H:Hp)(C dx a:Addr)(sg st:HY)(as:Ib)(rs:Yaa):Prop:=
 ∃lk pn t,H a=some (.ins C dx (gz sg st lk pn))/\H lk=some (.lst (as.map V.ref))/\bo R H as rs/\cJ H pn t/\jc t=bd (tx st) rs
def qZ(R:RC)(H:Hp)(C dx a:Addr)(sg st:HY)(as:Ib)(rs:Yaa)(lk pn:Addr)(t:NT):Prop:=
 H a=some (.ins C dx (gz sg st lk pn))/\H lk=some (.lst (as.map V.ref))/\bo R H as rs/\cJ H pn t/\jc t=bd (tx st) rs
theorem qZ.f{R:RC}{H:Hp}{C dx a:Addr}{sg st:HY}{as:Ib}{rs:Yaa}{lk pn:Addr}{t:NT}(g:qZ R H C dx a sg st as rs lk pn t):dX R H C dx a sg st as rs:=⟨lk,pn,t,g⟩
theorem dX.up{R:RC}{H H':Hp}{C dx a:Addr}{sg st:HY}{as:Ib}{rs:Yaa}(g:dX R H C dx a sg st as rs)(s:az H H'):dX R H' C dx a sg st as rs:=by
 obtain⟨lk,pn,t,h1,h2,h3,h4,h5⟩:=g;exact⟨lk,pn,t,s _ _ h1,s _ _ h2,h3.up s,h4.grow s,h5⟩
def AU(a C:Addr)(H:Hp)(y:Str×List Int)(E:XK):Prop:=∀(t d:Addr) (H':Hp),bA a H H'->H' t=some (.tup (Df y))->H' d=some (.xd [("why",.ref t)])->E (.ref C) (some d) H'
theorem A0(k:Nat)(l:Addr)(v:RV):tW k l v≠[]:=λe=>by
 have:=(mQ l v k).1;rw[e]at this;exact nomatch this
theorem bo.upX{R:RC}{H H':Hp}{a C dx:Addr}{as:Ib}{rs:Yaa}(h:bo R H as rs)(ha:H a=some (.ins C dx []))(s:bA a H H'):bo R H' as rs:=by
 refine⟨h.1,λi b r e1 e2=>?_⟩;obtain⟨d,l,h1,h2⟩:=h.2 i b r e1 e2;refine⟨d,l,s _ _ (λe=>?_) h1,s _ _ (λe=>?_) h2⟩
 ·rw[e,ha]at h1
  have:=Option.some.inj h1;exact absurd (HO.ins.inj this).2.2.symm (A0 _ _ _)
 ·rw[e,ha]at h2;cases h2
noncomputable abbrev df:Stmt:=eW 39 0
inductive eV(K:W.Frag)(R:RC)(CF:Addr)(vs:List V)(H:Hp)(Q:VK)(E:XK):Prop
 |mk (a C dx l:Addr) (sg st:HY) (as:Ib) (rs:Yaa) (_:vs=[.ref a,.str (tx sg),.str (tx st),.ref l]) (_:H a=some (.ins C dx [])) (_:kS K C) (_:(aq K C "signs"/\aq K C "start"/\aq K C "kept"/\aq K C "numbers")) (_:sg.length<=1000) (_:st.length<=1000) (_:H l=some (.lst (as.map V.ref))) (_:bo R H as rs) (_:(∀r∈rs,r.1<4)) (_:rs.length<=100) (_:(fK sg st rs=none->∀H' lk pn t,bA a H H'->qZ R H' C dx a sg st as rs lk pn t->H lk=none->H pn=none->(∀x∈t,H x.2.1=none)->Q .non H')) (_:∀y,fK sg st rs=some y->AU a CF H y E)
theorem sj:ay ["self","signs","start","rules"] ["self","signs","start","rules"] (ak df):=by walk_at "c"
theorem qG{R:RC}{f zca:Addr}{fd:Ie}{t1:Tok}(F:cY K "__init__" "Grammar.__init__" df f fd)(nb:NB mg)(yaE:mg "MOST_NAMES"=some (.int 8 t1))
  (zxa:mg "NoGrammar"=some (.ref zca)) (zqa:XI P w K mg base 1 zca "why") (yaH:fF P w K mg base (b7 P w) 3 "check_made_of" ["signs","start","rules"] (g9 R zca)) (yaB:fF P w K mg base bF 2 "numbers_by_name" ["start","rules"] (fG K R)) :
  aZ P w K mg base (b7 P w) 4 f fd ["self","signs","start","rules"] (eV K R zca):=by
 have sc:=sj;walk_at "x"
 ·obtain⟨a,C,dx,l,sg,st,as,rs,rfl,_⟩:=h;rfl
 ·obtain⟨a,C,dx,l,sg,st,as,rs,rfl,ha,cl,⟨n1,n2,n3,n4⟩,hsg,hst,hl,hrs,hk4,hn,good,bad⟩:=h
  refine⟨_,(ae (bu (aK (E:=E) yaH (hr.mono nofun) rfl (b_ λ_ _ _ h=>h) (aa (al 1) (aa (al 2) (aa (al 3) ad)))))
   (ae (cM (al 0) (al 1) rfl)
   (ae (cM (al 0) (al 2) rfl)
   (ae (cM (al 0) (cw cg rfl nb.list fW (aa (al 3) ad)) rfl)
   (ae (cM (al 0) (aK (CX:=b7 P w) yaB.lift (hr.mono nofun) rfl bf (aa (al 2) (aa (al 3) ad))) rfl)
   (ai (bj (aE (aW.m0 ju) (ax pR rfl nb.len aR (aa (aV (al 0) rfl) ad)) (eJ (v:=.int 8) rfl yaE ⟨_,rfl⟩) (aI _))
   (ai (gU zqa (hr.mono nofun) rfl rfl zxa (gJ λ_ _ _ h=>h) (aa (aY (bV (aa (ax pR rfl nb.len aR (aa (aV (al 0) rfl) ad)) ad))) ad)))
   aJ))))))),?_⟩
  walk_at "n";refine⟨sg,st,l,as,rs,rfl,hsg,hst,hl,hrs,hk4,hn,λg0 H1 sm1=>h1 _ _ ?_,λy hy t d H' sm ht hd=>bad y (by unfold fK;rw[hy]) t d H' (.of sm) ht hd⟩;clear h1;have ha1:=sm1 _ _ ha;have hla:l≠a:=λe=>by rw[e,ha]at hl;cases hl
  walk_at "o";refine⟨C,dx,_,ha1,cl,n1,by simp,h2 _ _ ?_⟩;clear h2;have sx2:bA a H (au H1 a (.ins C dx [("signs",.str (tx sg))])):=(bA.of sm1).put;have ea2:au H1 a (.ins C dx [("signs",.str (tx sg))]) a=some (.ins C dx [("signs",.str (tx sg))]):=ac;show _;change vn _ _ _ _ (au H1 a (.ins C dx [("signs",.str (tx sg))]));generalize au H1 a (.ins C dx [("signs",.str (tx sg))])=H2 at sx2 ea2 ⊢;clear sm1 ha1;refine aj λN3 h3=>?_;walk_at "wp";have d1:¬ (("signs":Str)="start"):=by decide +kernel
  have e3:ce "start" (V.str (tx st)) [(("signs":Str),V.str (tx sg))]=[(("signs":Str),V.str (tx sg)),(("start":Str),V.str (tx st))]:=by simp only[ce,if_neg d1]
  refine⟨C,dx,_,ea2,cl,n2,by simp,?_⟩;rw[e3];refine h3 _ _ ?_;clear h3;have sx3:bA a H (au H2 a (.ins C dx [(("signs":Str),V.str (tx sg)),(("start":Str),V.str (tx st))])):=sx2.put;have ea3:au H2 a (.ins C dx [(("signs":Str),V.str (tx sg)),(("start":Str),V.str (tx st))]) a=some (.ins C dx [(("signs":Str),V.str (tx sg)),(("start":Str),V.str (tx st))]):=ac;generalize au H2 a (.ins C dx [(("signs":Str),V.str (tx sg)),(("start":Str),V.str (tx st))])=H3 at sx3 ea3 ⊢;clear sx2 ea2;have hl3:=sx3 _ _ hla hl;refine aj λN4 h4=>?_;walk_at "wp";refine⟨_,.inl (aN.of hl3),λlk hlk=>?_⟩;have hka:lk≠a:=λe=>by rw[e,ea3]at hlk;cases hlk
  have hlk0:lk≠l:=λe=>by rw[e,hl3]at hlk;cases hlk
  have sk:az H3 (au H3 lk (.lst (as.map V.ref))):=af hlk;have ek:au H3 lk (.lst (as.map V.ref)) lk=some (.lst (as.map V.ref)):=ac;have fr1:H lk=none:=by
   cases e:H lk with
   |none=>rfl
   |some u=>rw[sx3 _ _ hka e]at hlk;cases hlk
  generalize au H3 lk (.lst (as.map V.ref))=H4 at sk ek ⊢;have d2:¬ (("signs":Str)="kept"):=by decide +kernel
  have d3:¬ (("start":Str)="kept"):=by decide +kernel
  have e4:ce "kept" (V.ref lk) [(("signs":Str),V.str (tx sg)),(("start":Str),V.str (tx st))]=[(("signs":Str),V.str (tx sg)),(("start":Str),V.str (tx st)),(("kept":Str),V.ref lk)]:=by simp only[ce,if_neg d2,if_neg d3]
  refine⟨C,dx,_,sk _ _ ea3,cl,n3,by simp,?_⟩;rw[e4];refine h4 _ _ ?_;clear h4;have sx5:bA a H (au H4 a (.ins C dx [(("signs":Str),V.str (tx sg)),(("start":Str),V.str (tx st)),(("kept":Str),V.ref lk)])):=(sx3.then sk).put;have ea5:au H4 a (.ins C dx [(("signs":Str),V.str (tx sg)),(("start":Str),V.str (tx st)),(("kept":Str),V.ref lk)]) a=some (.ins C dx [(("signs":Str),V.str (tx sg)),(("start":Str),V.str (tx st)),(("kept":Str),V.ref lk)]):=ac;have ek5:au H4 a (.ins C dx [(("signs":Str),V.str (tx sg)),(("start":Str),V.str (tx st)),(("kept":Str),V.ref lk)]) lk=some (.lst (as.map V.ref)):=by rw[ao hka];exact ek
  generalize au H4 a (.ins C dx [(("signs":Str),V.str (tx sg)),(("start":Str),V.str (tx st)),(("kept":Str),V.ref lk)])=H5 at sx5 ea5 ek5 ⊢;refine aj λN5 h5=>?_;walk_at "wp";refine⟨tx st,l,as,rs,rfl,sx5 _ _ hla hl,hrs.upX ha sx5,hn,λpn H6 t hpn hN hm hfr sm6=>?_⟩;have hpa:pn≠a:=λe=>by rw[e,ea5]at hpn;cases hpn
  have hpk:pn≠lk:=λe=>by rw[e,ek5]at hpn;cases hpn
  have fr2:H pn=none:=by
   cases e:H pn with
   |none=>rfl
   |some u=>rw[sx5 _ _ hpa e]at hpn;cases hpn
  have fr3:∀x∈t,H x.2.1=none:=λx hx=>by
   have h5x:=hfr x hx;cases e:H x.2.1 with
   |none=>rfl
   |some u=>rw[sx5 _ _ (λz=>by rw[z,ea5]at h5x;cases h5x) e]at h5x;cases h5x
  have d4:¬ (("signs":Str)="numbers"):=by decide +kernel
  have d5:¬ (("start":Str)="numbers"):=by decide +kernel
  have d6:¬ (("kept":Str)="numbers"):=by decide +kernel
  have e6:ce "numbers" (V.ref pn) [(("signs":Str),V.str (tx sg)),(("start":Str),V.str (tx st)),(("kept":Str),V.ref lk)]=gz sg st lk pn:=by unfold gz;simp only[ce,if_neg d4,if_neg d5,if_neg d6]
  have ea6:=sm6 _ _ ea5;refine⟨C,dx,_,ea6,cl,n4,by simp,?_⟩;rw[e6];refine h5 _ _ ?_;clear h5;have sx7:bA a H (au H6 a (.ins C dx (gz sg st lk pn))):=(sx5.then sm6).put;have gf:qZ R (au H6 a (.ins C dx (gz sg st lk pn))) C dx a sg st as rs lk pn t:=by
   refine⟨ac,by rw[ao hka];exact sm6 _ _ ek5,hrs.upX ha sx7,⟨by rw[ao hpa];exact hN.dict,λx hx=>?_,hN.apart⟩,hm⟩;have hq:=hN.list x hx;rw[ao (λe=>by rw[e,ea6]at hq;cases hq)];exact hq
  have ea7:au H6 a (.ins C dx (gz sg st lk pn)) a=some (.ins C dx (gz sg st lk pn)):=ac;have ed7:au H6 a (.ins C dx (gz sg st lk pn)) pn=some (.dK (uv t)):=by rw[ao hpa];exact hN.dict
  generalize au H6 a (.ins C dx (gz sg st lk pn))=H7 at sx7 gf ea7 ed7 ⊢;have hlen:(uv t).length=(bd (tx st) rs).length:=by rw[<- hm];unfold uv jc;rw[G7,G7]
  walk_at "wp";refine⟨C,dx,_,ea7,cl,n4,_,rfl,pn,rfl,_,ed7,?_⟩;rw[hlen]
  by_cases h8:8<(bd (tx st) rs).length
  ·rw[if_pos ⋯]
   refine⟨C,dx,_,ea7,cl,n4,_,rfl,pn,rfl,_,ed7,am ⋯,λp hp=>⟨am ⋯,λd hd=>?_⟩⟩;rw[hlen]at hd ⊢;have hdp:p≠d:=λx=>by rw[<- x,ac]at hd;cases hd
   refine bad ("names",[((bd (tx st) rs).length:Int)]) (by unfold fK;rw[g0];simp only[];rw[if_pos h8]) p d _ (((sx7.then (af hp))).then (af hd)) (by rw[ao hdp,ac];rfl) ac
  ·rw[if_neg ⋯]
   exact good (by unfold fK;rw[g0];simp only[];rw[if_neg h8]) H7 lk pn t sx7 gf fr1 fr2 fr3
noncomputable abbrev di:Stmt:=eW 39 2
inductive eG(R:RC)(C:Addr)(vs:List V)(H:Hp)(Q:VK)(_E:XK):Prop
 |mk (a dx:Addr) (sg st:HY) (as:Ib) (rs:Yaa) (k:Nat) (b:Addr) (_:vs=[.ref a,.int (k:Int)]) (_:dX R H C dx a sg st as rs) (_:as[k]?=some b) (_:Q (.ref b) H)
theorem su:ay ["self","k"] ["self","k"] (ak di):=by walk_at "c"
theorem rS{R:RC}{f C:Addr}{fd:Ie}(F:cY K "rule" "Grammar.rule" di f fd)(nb:NB mg)(cl:kS K C)(na:aq K C "signs"/\aq K C "start"/\aq K C "kept"/\aq K C "numbers"):aZ P w K mg base bF 1 f fd ["self","k"] (eG R C):=by
 have sc:=su;walk_at "f"
 ·obtain⟨a,dx,sg,st,as,rs,k,b,rfl,_⟩:=h;rfl
 ·obtain⟨a,dx,sg,st,as,rs,k,b,rfl,g,hb,q⟩:=h
  obtain⟨lk,pn,t,ha,hk,hrs,hN,hm⟩:=id g;have hu:=hr.units;refine⟨_,(ai (aG (aD bi (aV (al 0) rfl) (al 1) (λ_ _=>rfl)))),?_⟩;walk_at "wp";exact⟨C,dx,_,ha,cl,na.2.2.1,_,rfl,lk,rfl,_,aN.of hk,_,br (by rw[G9,hb];rfl),q⟩
inductive Bg(R:RC)(C:Addr)(vs:List V)(H:Hp)(Q:VK)(_E:XK):Prop
 |mk (a dx:Addr) (sg st:HY) (as:Ib) (rs:Yaa) (_:vs=[.ref a]) (_:dX R H C dx a sg st as rs) (_:Q (.int (rs.length:Int)) H)
theorem pN(z:Str):∀t:NT,(jc t).lookup z=(t.find? λx=>decide (x.1=z)).map (·.2.2)
 | []=>rfl
 |x::t=>by
  have ih:=pN z t;unfold jc at ih ⊢;rw[Hx,List.lookup_cons,List.find?_cons]
  by_cases e:x.1=z
  ·simp[e]
  ·have e':(z==x.1)=false:=by simpa using λh=>e h.symm
   rw[e',ih];simp[e]
noncomputable abbrev bG:Stmt:=eW 39 5
inductive ci(R:RC)(C CN:Addr)(vs:List V)(H:Hp)(Q:VK)(E:XK):Prop
 |mk (a dx:Addr) (sg st:HY) (as:Ib) (rs:Yaa) (z:Str) (_:vs=[.ref a,.str z]) (_:dX R H C dx a sg st as rs) (_:(∀ns,(bd (tx st) rs).lookup z=some ns->∀l H',H l=none->H' l=some (.lst (uw ns))->az H H'->Q (.ref l) H')) (_:((bd (tx st) rs).lookup z=none->E (.ref CN) none H))
theorem kf:ay ["self","name"] ["self","name"] (ak bG):=by walk_at "c"
theorem kn{R:RC}{f C yaa:Addr}{fd:Ie}(F:cY K "numbers_of" "Grammar.numbers_of" bG f fd)(nb:NB mg)(cl:kS K C)(na:aq K C "signs"/\aq K C "start"/\aq K C "kept"/\aq K C "numbers")(yaF:mg "NoName"=some (.ref yaa))(yaO:XR K yaa):aZ P w K mg base (b7 P w) 1 f fd ["self","name"] (ci R C yaa):=by
 have sc:=kf;walk_at "x"
 ·obtain⟨a,dx,sg,st,as,rs,z,rfl,_⟩:=h;rfl
 ·obtain⟨a,dx,sg,st,as,rs,z,rfl,g,q,x⟩:=h
  obtain⟨lk,pn,t,ha,hk,hrs,hN,hm⟩:=id g;have hu:=hr.units;refine⟨_,(ae (bj (yJ (pk (HH (HL (by decide:1<=64) _) hu) (al 1) (aV (al 0) rfl)) (by with_unfolding_all rfl))
   (ai (gK yaO rfl rfl yaF (i6 λ_ _ _ h=>h) (bV ad)))
   aJ)
   (ai (aG (cw cg rfl nb.list fW (aa (r8 (HH (HL (by decide:1<=64) _) hu) (aV (al 0) rfl) (al 1) (λ_ _=>rfl)) ad))))),?_⟩
  walk_at "wp";have key:=pN z t;have val:=vo z t;rw[hm]at key;refine⟨C,dx,_,ha,cl,na.2.2.2,_,rfl,pn,rfl,?_⟩;refine⟨_,.inl ⟨_,.inr z,.inl hN.dict,rfl,rfl⟩,?_⟩;cases hf:t.find? (λx=>decide (x.1=z)) with
  |none=>
   rw[hf]at key val;rw[val];rw[if_pos (by simp)];exact⟨am ⋯,x key⟩
  |some y=>
   rw[hf]at key val;rw[val];rw[if_neg (by simp)];have hy:=hN.list y (List.mem_of_find?_eq_some hf);exact⟨C,dx,_,ha,cl,na.2.2.2,_,rfl,pn,rfl,_,.inl ⟨_,.inr z,.inl hN.dict,rfl,val.symm⟩,_,rfl,_,.inl (aN.of hy),λl hl=>q _ key l _ hl ac (af hl)⟩
inductive Dq(K:W.Frag)(CF:Addr)(vs:List V)(H:Hp)(Q:VK)(E:XK):Prop
 |mk (a b:Addr) (p q:bz) (r c r' c':Nat) (_:vs=[.ref a,.ref b]) (_:H a=some (.lst (aH p))) (_:H b=some (.lst (aH q))) (_:e_ p r c) (_:e_ q r' c') (_:0<r) (_:r<=6) (_:c<=6) (_:0<r') (_:r'<=6) (_:c'<=6) (_:(c=c'/\r+r'<=6->c7 H (p++q) Q)) (_:(¬ (c=c'/\r+r'<=6)->E (.ref CF) none H))
noncomputable def put2(p q:bz):bz:=(p.zip q).map λx=>x.1++x.2
inductive Dh(K:W.Frag)(CF:Addr)(vs:List V)(H:Hp)(Q:VK)(E:XK):Prop
 |mk (a b:Addr) (p q:bz) (r c r' c':Nat) (_:vs=[.ref a,.ref b]) (_:H a=some (.lst (aH p))) (_:H b=some (.lst (aH q))) (_:e_ p r c) (_:e_ q r' c') (_:0<r) (_:r<=6) (_:c<=6) (_:0<r') (_:r'<=6) (_:c'<=6) (_:(r=r'/\c+c'<=6->c7 H (put2 p q) Q)) (_:(¬ (r=r'/\c+c'<=6)->E (.ref CF) none H))
inductive Dl(K:W.Frag)(vs:List V)(H:Hp)(Q:VK)(_E:XK):Prop
 |mk (a:Addr) (p:bz) (_:vs=[.ref a]) (_:aN K H a (aH p)) (_:B1 p) (_:c7 H (jh p) Q)
inductive Dm(K:W.Frag)(vs:List V)(H:Hp)(Q:VK)(_E:XK):Prop
 |mk (a:Addr) (p:bz) (i:Nat) (_:vs=[.ref a,.int (i:Int)]) (_:aN K H a (aH p)) (_:B1 p) (_:(∀r∈p,i<r.length)) (_:∀H',az H H'->Q (.str (tx (col p i))) H')
inductive Cp(K:W.Frag)(vs:List V)(H:Hp)(Q:VK)(_E:XK):Prop
 |mk (a:Addr) (p:bz) (r c:Nat) (_:vs=[.ref a]) (_:aN K H a (aH p)) (_:e_ p r c) (_:0<r) (_:r<=64) (_:c<=64) (_:c7 H (gb p) Q)
inductive yo(K:W.Frag)(vs:List V)(H:Hp)(Q:VK)(_E:XK):Prop
 |mk (a:Addr) (p:bz) (r c t:Nat) (_:vs=[.ref a,.int (t:Int)]) (_:aN K H a (aH p)) (_:e_ p r c) (_:0<r) (_:0<c) (_:r<=64) (_:c<=64) (_:t<8) (_:c7 H (turned p t) Q)
inductive AX(C:Addr)(vs:List V)(H:Hp)(Q:VK)(_E:XK):Prop
 |mk (a dx l b:Addr) (n sg:HY) (c:Int) (_:vs=[.ref a,.ref b]) (_:H a=some (.ins C dx (BS n c l sg))) (_:c7 H [sg] Q)
inductive AT(spf:Sp)(vs:List V)(H:Hp)(Q:VK)(E:XK):Prop
 |mk (a b a1 a2:Addr) (_:vs=[.ref a,.ref b]) (_:H b=some (.lst [.ref a1,.ref a2])) (_:spf [.ref a1,.ref a2] H Q E)
inductive Bh(K:W.Frag)(C:Addr)(vs:List V)(H:Hp)(Q:VK)(E:XK):Prop
 |mk (a dx l b a1:Addr) (n o1:HY) (c t:Int) (_:vs=[.ref a,.ref b]) (_:H a=some (.ins C dx (BX n c l o1 t))) (_:H b=some (.lst [.ref a1])) (_:yo K [.ref a1,.int t] H Q E0)
structure fk(p:bz)(r c:Nat):Prop where
 rc:e_ p r c
 r0:0<r
 r6:r<=6
 c0:0<c
 c6:c<=6
inductive Be:Nat->List bz->Prop
 |cell:Be 0 []
 |beside {p q:bz} {r c r' c':Nat}:fk p r c->fk q r' c'->Be 1 [p,q]
 |above {p q:bz} {r c r' c':Nat}:fk p r c->fk q r' c'->Be 2 [p,q]
 |turn {p:bz} {r c:Nat}:fk p r c->Be 3 [p]
noncomputable def fS(k:Nat)(v:RV)(ps:List bz):Option bz:=
 match k,ps with
 |0,_=>some [v.sg]
 |1,[p,q]=>if p.length=q.length/\(p.headD []).length+(q.headD []).length<=6 then some (put2 p q) else none
 |2,[p,q]=>if(p.headD []).length=(q.headD []).length/\p.length+q.length<=6 then some (p++q) else none
 |_,[p]=>some (turned p v.t.toNat)
 |_,_=>none
noncomputable def fh(r:Nat×RV):List V:=match r.1 with
 |0=>[.str (tx r.2.n),.int r.2.c,.int 0,.str (tx r.2.sg),.str ""]
 |1=>[.str (tx r.2.n),.int r.2.c,.int 1,.str (tx r.2.o1),.str (tx r.2.o2)]
 |2=>[.str (tx r.2.n),.int r.2.c,.int 2,.str (tx r.2.o1),.str (tx r.2.o2)]
 |_=>[.str (tx r.2.n),.int r.2.c,.int 3,.str (tx r.2.o1),.int r.2.t]
def dA(H:Hp)(l:Addr)(ts:Ib)(rs:Yaa):Prop:=H l=some (.lst (ts.map V.ref))/\ts.length=rs.length/\∀(i:Nat) t r,ts[i]?=some t->rs[i]?=some r->H t=some (.tup (fh r))
theorem dA.up{H H':Hp}{l:Addr}{ts:Ib}{rs:Yaa}(h:dA H l ts rs)(s:az H H'):dA H' l ts rs:=⟨s _ _ h.1,h.2.1,λi t r e1 e2=>s _ _ (h.2.2 i t r e1 e2)⟩
theorem im{k:Nat}(h:k<4):k=0\/k=1\/k=2\/k=3:=by omega
structure dZ(r:Nat×RV):Prop where
 k4:r.1<4
 good:r.2.good
 small:r.2.small
noncomputable abbrev nF:Stmt:=kD 52
inductive lV(R:RC)(vs:List V)(H:Hp)(Q:VK)(_E:XK):Prop
 |mk (t:Addr) (r:Nat×RV) (_:vs=[.ref t]) (_:H t=some (.tup (fh r))) (_:dZ r) (_:∀b H',cL R H' r.1 b r.2->az H H'->Q (.ref b) H')
theorem xU:ay ["_law_rule_here"] ["_law_rule_here"] (ak nF):=by walk_at "c"
theorem xI{R:RC}{f CF:Addr}{fd:Ie}(F:cY K "_law_rule" "_law_rule" nF f fd)(nb:NB mg)(rk:lD K R)
  (zNa:iF P w K mg base (b7 P w) 4 "CellRule" R.cc ["self","name","cost","sign"] (eQ K CF)) (zAa:iF P w K mg base (b7 P w) 4 "BesideRule" R.cb ["self","name","cost","one","other"] (bU K CF))
  (zHa:iF P w K mg base (b7 P w) 4 "AboveRule" R.ca ["self","name","cost","one","other"] (bU K CF)) (zOa:iF P w K mg base (b7 P w) 4 "TurnRule" R.ct ["self","name","cost","part","turning"] (eS K CF)):aZ P w K mg base bF 6 f fd ["_law_rule_here"] (lV R):=by
 have sc:=xU;walk_at "f"
 ·obtain⟨t,r,rfl,_⟩:=h;rfl
 ·obtain⟨t,⟨k,v⟩,rfl,ht,⟨hk,g,sm⟩,good⟩:=h
  refine⟨_,(ae (bj (aE cI (aD aF (al 0) ah (λ_ _=>rfl)) ah (aI _))
   (ai (aG (dB (CX:=b7 P w) zNa (hr.mono nofun) rfl bf (aa (aD aF (al 0) ah (λ_ _=>rfl)) (aa (aD aF (al 0) ah (λ_ _=>rfl)) (aa (aD aF (al 0) ah (λ_ _=>rfl)) ad))))))
   aJ)
   (ae (bj (aE cI (aD aF (al 0) ah (λ_ _=>rfl)) ah (aI _))
   (ai (aG (dB (CX:=b7 P w) zAa (hr.mono nofun) rfl bf (aa (aD aF (al 0) ah (λ_ _=>rfl)) (aa (aD aF (al 0) ah (λ_ _=>rfl)) (aa (aD aF (al 0) ah (λ_ _=>rfl)) (aa (aD aF (al 0) ah (λ_ _=>rfl)) ad)))))))
   aJ)
   (ae (bj (aE cI (aD aF (al 0) ah (λ_ _=>rfl)) ah (aI _))
   (ai (aG (dB (CX:=b7 P w) zHa (hr.mono nofun) rfl bf (aa (aD aF (al 0) ah (λ_ _=>rfl)) (aa (aD aF (al 0) ah (λ_ _=>rfl)) (aa (aD aF (al 0) ah (λ_ _=>rfl)) (aa (aD aF (al 0) ah (λ_ _=>rfl)) ad)))))))
   aJ)
   (ai (aG (dB (CX:=b7 P w) zOa (hr.mono nofun) rfl bf (aa (aD aF (al 0) ah (λ_ _=>rfl)) (aa (aD aF (al 0) ah (λ_ _=>rfl)) (aa (aD aF (al 0) ah (λ_ _=>rfl)) (aa (aD aF (al 0) ah (λ_ _=>rfl)) ad)))))))))),?_⟩
  have sq:=bx.of (K:=K) ht;have g:v.good:=g;have sm:v.small:=g.small;have bn:v.n.length<=100000:=by have:=sm.n;omega
  have b1:v.o1.length<=100000:=by have:=sm.o1;omega
  have b2:v.o2.length<=100000:=by have:=sm.o2;omega
  have bs:v.sg.length<=100000:=by have:=sm.sg;omega
  walk_at "wp";rcases im hk with rfl | rfl | rfl | rfl
  ·change bx K H t [.str (tx v.n),.int v.c,.int 0,.str (tx v.sg),.str ""]at sq
   refine⟨_,sq,_,rfl,rfl,?_⟩;rw[if_pos rfl];refine⟨_,sq,_,rfl,_,sq,_,rfl,_,sq,_,rfl,λx dx hx hd hne=>?_⟩;exact⟨x,R.cc,dx,v.n,v.sg,v.c,rfl,ac,rk.i0.cl,rk.a0,bn,bs,λok pl H' sx hpl hl' ha=>⟨rfl,good x H' ⟨dx,pl,ha,hl'⟩ (cy hx hd sx)⟩,λnok=>absurd (g.ok 0) nok⟩
  ·change bx K H t [.str (tx v.n),.int v.c,.int 1,.str (tx v.o1),.str (tx v.o2)]at sq
   refine⟨_,sq,_,rfl,rfl,?_⟩;rw[if_neg nofun];refine⟨_,sq,_,rfl,rfl,?_⟩;rw[if_pos rfl];refine⟨_,sq,_,rfl,_,sq,_,rfl,_,sq,_,rfl,_,sq,_,rfl,λx dx hx hd hne=>?_⟩;exact⟨x,R.cb,dx,v.n,v.o1,v.o2,v.c,rfl,ac,rk.i1.cl,rk.a1,bn,b1,b2,λok pl H' sx hpl hl' ha=>⟨rfl,good x H' ⟨dx,pl,ha,hl'⟩ (cy hx hd sx)⟩,λnok=>absurd (g.ok 1) nok⟩
  ·change bx K H t [.str (tx v.n),.int v.c,.int 2,.str (tx v.o1),.str (tx v.o2)]at sq
   refine⟨_,sq,_,rfl,rfl,?_⟩;rw[if_neg nofun];refine⟨_,sq,_,rfl,rfl,?_⟩;rw[if_neg nofun];refine⟨_,sq,_,rfl,rfl,?_⟩;rw[if_pos rfl];refine⟨_,sq,_,rfl,_,sq,_,rfl,_,sq,_,rfl,_,sq,_,rfl,λx dx hx hd hne=>?_⟩;exact⟨x,R.ca,dx,v.n,v.o1,v.o2,v.c,rfl,ac,rk.i2.cl,rk.a2,bn,b1,b2,λok pl H' sx hpl hl' ha=>⟨rfl,good x H' ⟨dx,pl,ha,hl'⟩ (cy hx hd sx)⟩,λnok=>absurd (g.ok 2) nok⟩
  ·change bx K H t [.str (tx v.n),.int v.c,.int 3,.str (tx v.o1),.int v.t]at sq
   refine⟨_,sq,_,rfl,rfl,?_⟩;rw[if_neg nofun];refine⟨_,sq,_,rfl,rfl,?_⟩;rw[if_neg nofun];refine⟨_,sq,_,rfl,rfl,?_⟩;rw[if_neg nofun];refine⟨_,sq,_,rfl,_,sq,_,rfl,_,sq,_,rfl,_,sq,_,rfl,λx dx hx hd hne=>?_⟩;exact⟨x,R.ct,dx,v.n,v.o1,v.c,v.t,rfl,ac,rk.i3.cl,rk.a3,bn,b1,λok pl H' sx hpl hl' ha=>⟨rfl,good x H' ⟨dx,pl,ha,hl'⟩ (cy hx hd sx)⟩,λnok=>absurd (g.ok 3) nok⟩
structure fo(p:bz)(sg:HY)(r:Nat×RV):Prop where
 good:dZ r
 n:r.2.n∈p
 o1:r.2.o1∈p
 o2:r.2.o2∈p
 sg:∃c∈sg,r.2.sg=[c]
theorem dA.app{H:Hp}{l t:Addr}{ts:Ib}{rs:Yaa}{r:Nat×RV}(h:dA H l ts rs)(ht:H t=some (.tup (fh r))):dA (au H l (.lst (ts.map V.ref++[V.ref t]))) l (ts++[t]) (rs++[r]):=by
 obtain⟨h1,h2,h3⟩:=h;refine⟨by rw[ac,Hf];rfl,by rw[Hq,Hq,h2];rfl,λi t' r' e1 e2=>?_⟩;have hold:∀t' r',H t'=some (.tup (fh r'))->au H l (.lst (ts.map V.ref++[V.ref t])) t'=some (.tup (fh r')):=λt' r' e=>by
  rw[ao (λz=>by rw[z,h1]at e;cases e)];exact e
 by_cases hi:i<ts.length
 ·rw[Ho hi]at e1
  rw[Ho ⋯]at e2;exact hold _ _ (h3 i t' r' e1 e2)
 ·rw[Hn ⋯]at e1
  rw[Hn ⋯]at e2;have hi2:i=ts.length:=by
   have:=(G5.mp e1).1;simp at this;omega
  subst hi2;rw[Nat.sub_self]at e1;rw[h2,Nat.sub_self]at e2;cases e1;cases e2
  exact hold _ _ ht
theorem tP{r:HY}(h:cZ r=true):fZ r iN=true:=by
 unfold cZ at h;simp only[Bool.and_eq_true,decide_eq_true_eq]at h;exact h.1.2
theorem rV{r:HY}{c:Nat}(h:cZ r=true)(hc:c∈r):iZ [c]=true:=by
 have:=tP h;unfold fZ at this;rw[HK]at this;unfold iZ fZ;rw[List.all_cons,this c hc]
 rfl
noncomputable def dE(ks:Ih)(z:Str):List Str:=if z∈ks then ks else ks++[z]
theorem pw(m:List (Str×List Nat))(z:Str):(bH m z).map (·.1)=dE (m.map (·.1)) z:=by
 unfold bH dE
 split
 ·rfl
 ·rw[Hf];rfl
theorem nK:∀(zs:Ih) (m:List (Str×List Nat)),(zs.foldl bH m).map (·.1)=zs.foldl dE (m.map (·.1))
 | [],_=>rfl
 |z::zs,m=>by rw[List.foldl_cons,List.foldl_cons,nK zs,pw]
theorem xN(m:List (Str×List Nat))(i:Nat)(r:Nat×RV):(dQ m i r).map (·.1)=(tx r.2.n::(bt r.1 r.2).map tx).foldl dE (m.map (·.1)):=by
 unfold dQ;rw[nK,ic,pw,List.foldl_cons]
noncomputable def bM(z:Str)(rs:Yaa):List Nat:=rs.zipIdx.filterMap λx=>if tx x.1.2.n=z then some x.2 else none
theorem nI(z:Str)(rs:Yaa)(r:Nat×RV):bM z (rs++[r])=bM z rs++if tx r.2.n=z then[rs.length] else[]:=by
 unfold bM;rw[List.zipIdx_append,List.filterMap_append]
 congr 1
 simp
 split<;>rename_i h<;>simp[h]
theorem vJ{z:Str}:∀{rs:Yaa},(∀r∈rs,tx r.2.n≠z)->bM z rs=[]:=by
 intro rs h;unfold bM;rw[List.filterMap_eq_nil_iff];intro x hx;rw[if_neg (h x.1 (List.fst_mem_of_mem_zipIdx hx))]
structure NI(rs:Yaa)(m:List (Str×List Nat)):Prop where
 nd:(m.map (·.1)).Nodup
 ix:∀q∈m,q.2=bM q.1 rs
 all:∀r∈rs,tx r.2.n∈m.map (·.1)
theorem nv{m:List (Str×List Nat)}{z y:Str}:y∈(bH m z).map (·.1)↔y∈m.map (·.1)\/y=z:=by
 unfold bH
 split
 ·rename_i h
  exact⟨λq=>.inl q,λq=>q.elim id λe=>e▸h⟩
 ·rw[Hf,Hg];simp
theorem NI.name{rs:Yaa}{m:List (Str×List Nat)}(h:NI rs m)(z:Str):NI rs (bH m z):=by
 refine⟨lx h.nd,λq hq=>?_,λr hr=>nv.mpr (.inl (h.all r hr))⟩;unfold bH at hq
 split at hq
 ·exact h.ix q hq
 ·rename_i hz
  rcases Hg.mp hq with q1 | q1
  ·exact h.ix q q1
  ·rw[G8.mp q1]
   exact(vJ (z:=z) λr hr e=>hz (by rw[<- e];exact h.all r hr)).symm
theorem NI.names{rs:Yaa}:∀(zs:Ih) {m:List (Str×List Nat)},NI rs m->NI rs (zs.foldl bH m)
 | [],_,h=>h
 |z::zs,m,h=>NI.names zs (h.name z)
theorem NI.put{rs:Yaa}{m:List (Str×List Nat)}{r:Nat×RV}(h:NI rs m)(hn:tx r.2.n∈m.map (·.1)):NI (rs++[r]) (iA m (tx r.2.n) rs.length):=by
 refine⟨by rw[ic];exact h.nd,λq hq=>?_,λr' hr'=>?_⟩
 ·unfold iA at hq
  obtain⟨p,hp,rfl⟩:=HJ.mp hq;rw[nI]
  by_cases e:p.1=tx r.2.n
  ·rw[if_pos e]
   show p.2++[rs.length]=bM p.1 rs++_;rw[if_pos e.symm,h.ix p hp]
  ·rw[if_neg e,if_neg (λz=>e z.symm),HB]
   exact h.ix p hp
 ·rw[ic]
  rcases Hg.mp hr' with q | q
  ·exact h.all r' q
  ·rw[G8.mp q];exact hn
theorem lP(z:Str):∀(n:Nat) (rs:Yaa),rs.length=n->NI rs (bd z rs)
 |0,rs,h=>by
  rw[HI.mp h];exact⟨by simp[bd,fC],λq hq=>by rw[show q=(z,[]) by simpa[bd,fC]using hq];rfl,λr hr=>nomatch hr⟩
 |n+1,rs,h=>by
  obtain⟨rs',r,rfl⟩:∃rs' r,rs=rs'++[r]:=⟨rs.dropLast,rs.getLast (by intro e;rw[e]at h;cases h),(List.dropLast_concat_getLast _).symm⟩;have hl:rs'.length=n:=by rw[Hq,List.length_singleton]at h;omega
  have ih:=lP z n rs' hl;unfold bd at ih ⊢;rw[fU,Nat.zero_add];unfold dQ;exact((ih.name (tx r.2.n)).put (nv.mpr (.inr rfl))).names _
theorem pB:∀{m:List (Str×List Nat)} {q:Str×List Nat},(m.map (·.1)).Nodup->q∈m->m.lookup q.1=some q.2
 |p::m,q,hnd,hq=>by
  rw[Hx,List.nodup_cons]at hnd;rw[List.lookup_cons];rcases Hi.mp hq with e | e
  ·rw[e];simp
  ·have hne:q.1≠p.1:=λz=>hnd.1 (z▸List.mem_map_of_mem e)
   have:(q.1==p.1)=false:=beq_eq_false_iff_ne.mpr hne;rw[this];exact pB hnd.2 e
theorem wQ{z:Str}{rs:Yaa}{q:Str×List Nat}(h:q∈bd z rs):(bd z rs).lookup q.1=some (bM q.1 rs)/\q.2=bM q.1 rs:=by
 have N:=lP z _ rs rfl;have e:=N.ix q h;exact⟨by rw[pB N.nd h,e],e⟩
theorem xF(z:Str)(rs:Yaa):(bM z rs).length<=rs.length:=by
 unfold bM;exact Hy (List.length_filterMap_le _ _) (by rw[List.length_zipIdx];exact Hr _)
theorem vN{R:RC}{H:Hp}{l:Addr}{ts:Ib}{rs:Yaa}{Q:List V->Hp->Prop}(hR:dA H l ts rs)(hg:∀r∈rs,dZ r)(hn:rs.length<=100)(q:∀(as:Ib) H',az H H'->bo R H' as rs->Q (as.map V.ref) H') :
  gZ (zz K l) (j_ 0) uq (nG (lV R) [] E0 (j' (uJ 0) oZ)) [none] H Q:=by
 obtain⟨hl,htl,hat⟩:=hR;refine lO (xs:=ts.map V.ref) (λi acc σ H'=>az H H'/\(∃as:List Addr,acc=as.map V.ref/\bo R H' as (rs.take i))/\i<=ts.length/\∃x,σ=[x]) ⟨az.refl _,⟨[],rfl,rfl,λi a r e=>by simp at e⟩,Hs _,_,rfl⟩ ?_ ?_ ?_ ?_ ?_
 ·rintro i acc σ H' ⟨_,⟨as,rfl,h,_⟩,hi,_⟩
  rw[G7,h,HF];exact bb ⋯
 ·rintro i acc σ H' ⟨_,_,h,_⟩
  rw[G7];exact h
 ·rintro i acc σ H' ⟨sm,_⟩
  exact aN.of (sm _ _ hl)
 ·rintro i x acc σ H' hx ⟨sm,⟨as,rfl,hA⟩,hi,y,rfl⟩
  have hlt:i<ts.length:=by have:=(G5.mp hx).1;rwa [G7]at this
  rw[G9,G4 hlt]at hx;cases hx;have hlr:i<rs.length:=by omega
  have hrr:rs[i]?=some rs[i]:=G4 hlr;have ht:=sm _ _ (hat i ts[i] rs[i] (G4 hlt) hrr);walk_at "wp";refine⟨ts[i],rs[i],rfl,ht,hg _ (Hc hlr),λb H2 hb s2=>⟨sm.trans s2,⟨as++[b],by rw[Hf];rfl,?_⟩,hlt⟩⟩;have hal:as.length=i:=by have:=hA.1;rw[HF]at this;omega
  rw[List.take_add_one,hrr];refine⟨by rw[Hq,Hq,hA.1];rfl,λj a r e1 e2=>?_⟩
  by_cases hj:j<as.length
  ·rw[Ho hj]at e1
   rw[Ho (by rw[<- hA.1];exact hj)]at e2;exact(hA.2 j a r e1 e2).up s2
  ·rw[Hn ⋯]at e1
   rw[Hn (by rw[<- hA.1];omega)]at e2;have:j-as.length=0:=by
    have:=(G5.mp e1).1;simp at this;omega
   rw[this]at e1;rw[<- hA.1,this]at e2;cases e1;cases e2
   exact hb
 ·rintro acc σ H' ⟨sm,⟨as,rfl,hA⟩,_⟩
  rw[G7,htl,HE]at hA;exact q as H' sm hA
noncomputable def Cl(rs:Yaa):List ThM.NR:=rs.map λr=>(tx r.2.n,(bt r.1 r.2).map tx)
theorem vm{ks:Ih}{z y:Str}:y∈dE ks z↔y∈ks\/y=z:=ThM.mem_addNew
theorem kT{y:Str}:∀(zs ks:Ih),y∈zs.foldl dE ks↔y∈ks\/y∈zs
 | [],ks=>by simp
 |z::zs,ks=>by
  rw[List.foldl_cons,kT zs,vm,Hi];exact⟨λh=>h.elim (λh=>h.elim .inl λe=>.inr (.inl e)) λh=>.inr (.inr h),λh=>h.elim (λh=>.inl (.inl h)) λh=>h.elim (λe=>.inl (.inr e)) .inr⟩
theorem yj(z:Str)(rs:Yaa)(r:Nat×RV):(bd z (rs++[r])).map (·.1)=(tx r.2.n::(bt r.1 r.2).map tx).foldl dE ((bd z rs).map (·.1)):=by
 unfold bd;rw[fU,xN]
theorem yI{α:Type}{P:List α->Prop}(h0:P [])(h1:∀rs r,P rs->P (rs++[r]))(rs:List α):P rs:=by
 have:∀(n:Nat) (rs:List α),rs.length=n->P rs:=by
  intro n
  induction n with
  |zero=>intro rs h;rw[HI.mp h];exact h0
  |succ n ih=>
   intro rs h;have hne:rs≠[]:=by intro e;rw[e]at h;cases h
   rw[<- List.dropLast_concat_getLast hne];exact h1 _ _ (ih _ (by rw[List.length_dropLast];omega))
 exact this _ rs rfl
theorem oj(z:Str)(rs:Yaa):∀y,y∈(bd z rs).map (·.1)↔y=z\/∃r∈Cl rs,y=r.1\/y∈r.2:=by
 refine yI (P:=λrs=>∀y,y∈(bd z rs).map (·.1)↔y=z\/∃r∈Cl rs,y=r.1\/y∈r.2) ?_ ?_ rs
 ·intro y
  have e:(bd z []).map (·.1)=[z]:=rfl;rw[e];unfold Cl;simp
 ·intro rs r ih y
  rw[yj,kT,ih y,Hi];unfold Cl;rw[Hf]
  constructor
  ·rintro((h | ⟨q,hq,h⟩) | h)
   ·exact .inl h
   ·exact .inr ⟨q,Hg.mpr (.inl hq),h⟩
   ·exact .inr ⟨_,Hg.mpr (.inr (G8.mpr rfl)),h⟩
  ·rintro(h | ⟨q,hq,h⟩)
   ·exact .inl (.inl h)
   ·rcases Hg.mp hq with hq | hq
    ·exact .inl (.inr ⟨q,hq,h⟩)
    ·rw[G8.mp hq]at h
     exact .inr h
theorem Bx{sg:HY}{c:Nat}(h:c∈sg):DY (tx sg) (tx [c])=true:=by
 have:=StrLaws.found_one (tx sg) c;show(!(Builtin.Str.occurrences (tx sg) ⟨#[c]⟩ 0 (tx sg).length 1).isEmpty)=true;rw[this,dO,decide_eq_true h]
theorem kN{sg:HY}:∀{rs:Yaa} {j:Nat},(∀r∈rs,∃c∈sg,r.2.sg=[c])->f' (tx sg) rs j=none
 | [],_,_=>rfl
 |r::rs,j,h=>by
  obtain⟨c,hc,e⟩:=h r List.mem_cons_self;unfold f';rw[if_neg (λz=>by rw[e,Bx hc]at z;exact absurd z.2 nofun)];exact kN λr' hr'=>h r' (Hj _ hr')
theorem yr{p:bz}{sg st:HY}{rs:Yaa}(hsg:cZ sg=true)(hst:st∈p)(hpn:∀r∈p,cr r=true)(hp:p.length<=8)(hn:rs.length<=24)(hr:∀r∈rs,fo p sg r):fK sg st rs=none:=by
 have h0:iw sg st rs=none:=by
  unfold iw;rw[if_neg (by rw[hsg];decide),if_neg (by rw[hpn _ hst];decide),if_neg ⋯,kN λr h=>(hr r h).sg]
 unfold fK;rw[h0];simp only[];rw[if_neg];have hk:∀z∈(bd (tx st) rs).map (·.1),z∈p.map tx:=λz hz=>by
  rcases(oj _ _ _).mp hz with e | ⟨q,hq,e⟩
  ·rw[e];exact List.mem_map_of_mem hst
  ·unfold Cl at hq
   obtain⟨r,hr',rfl⟩:=HJ.mp hq;have R:=hr r hr';rcases e with e | e
   ·rw[e];exact List.mem_map_of_mem R.n
   ·obtain⟨y,hy,rfl⟩:=HJ.mp e
    refine List.mem_map_of_mem ?_;obtain⟨k,v⟩:=r;rcases im R.good.k4 with rfl | rfl | rfl | rfl
    ·exact absurd hy List.not_mem_nil
    ·rcases(show y=v.o1\/y=v.o2 by simpa[bt]using hy) with rfl | rfl
     ·exact R.o1
     ·exact R.o2
    ·rcases(show y=v.o1\/y=v.o2 by simpa[bt]using hy) with rfl | rfl
     ·exact R.o1
     ·exact R.o2
    ·rw[show y=v.o1 by simpa[bt]using hy];exact R.o1
 have:=ThM.nd_len (lP (tx st) _ rs rfl).nd hk;rw[G7,G7]at this;omega
structure Ee(K:W.Frag)(C:Addr):Prop where
 cl:ia K C
 na:aq K C "signs"/\aq K C "start"/\aq K C "kept"/\aq K C "numbers"
noncomputable abbrev TR:=List Nat×Nat×Nat×Int
noncomputable def fw(r c:Nat):Int:=2*(r:Int)*(c:Int)-1
theorem gH(r c:Nat):fw r c=2*((r*c:Nat):Int)-1:=by unfold fw;push_cast;rw[Int.mul_assoc]
theorem ck{r c:Nat}(hr:1<=r)(hc:1<=c):1<=fw r c:=by
 rw[gH];have:1<=r*c:=Nat.mul_pos hr hc;omega
noncomputable def iY(lo hi:Int):List Int:=(List.range (hi-lo).toNat).map fun(j:Nat)=>lo+(j:Int)
theorem lU{lo hi x:Int}:x∈iY lo hi↔lo<=x/\x<hi:=by
 unfold iY;rw[HJ]
 constructor
 ·rintro⟨j,hj,rfl⟩
  rw[List.mem_range]at hj;omega
 ·rintro⟨h1,h2⟩
  exact⟨(x-lo).toNat,by rw[List.mem_range];omega,⋯⟩
noncomputable def aO(o1 o2:HY)(szs:List ((Nat×Nat)×(Nat×Nat)))(left:Int):List (List TR):=
 szs.flatMap λz=>(iY (fw z.1.1 z.1.2) (left-fw z.2.1 z.2.2+1)).map λf=>[(o1,z.1.1,z.1.2,f),(o2,z.2.1,z.2.2,left-f)]
noncomputable def bQ(r c:Nat):List ((Nat×Nat)×(Nat×Nat)):=(List.range (c-1)).map λi=>((r,1+i),(r,c-(1+i)))
noncomputable def bR(r c:Nat):List ((Nat×Nat)×(Nat×Nat)):=(List.range (r-1)).map λi=>((1+i,c),(r-(1+i),c))
noncomputable def bP(q:Nat×RV)(r c:Nat)(k:Int):List (List TR):=match q.1 with
 |0=>if r=1/\c=1/\k=q.2.c then[[]] else[]
 |1=>aO q.2.o1 q.2.o2 (bQ r c) (k-q.2.c)
 |2=>aO q.2.o1 q.2.o2 (bR r c) (k-q.2.c)
 |_=>[[(q.2.o1,if q.2.t%2=1 then c else r,if q.2.t%2=1 then r else c,k-q.2.c)]]
noncomputable def aM(f:TR->Nat)(ps:List TR):Nat:=ps.foldl (λm p=>m*f p) 1
noncomputable def cj(z:HY)(rs:Yaa):Yaa:=rs.filter λq=>decide (q.2.n=z)
noncomputable def cnt(rs:Yaa):Nat->TR->Nat
 |0,_=>0
 |f+1,p=>if p.2.1=0\/p.2.2.1=0\/6<p.2.1\/6<p.2.2.1\/p.2.2.2<fw p.2.1 p.2.2.1 then 0 else
  ((cj p.1 rs).map λq=>((bP q p.2.1 p.2.2.1 p.2.2.2).map λps=>aM (cnt rs f) ps).sum).sum
structure C7(q:Nat×RV)(r c:Nat)(k:Int)(p:TR):Prop where
 lt:p.2.2.2<k
 ge:1<=p.2.2.2\/k-q.2.c<=p.2.2.2
 r1:1<=p.2.1
 c1:1<=p.2.2.1
 rm:p.2.1<=max r c
 cm:p.2.2.1<=max r c
 nm:(p.1=q.2.o1)\/(p.1=q.2.o2/\(q.1=1\/q.1=2))
theorem k7{o1 o2:HY}{szs:List ((Nat×Nat)×(Nat×Nat))}{left:Int}{ps:List TR}(h:ps∈aO o1 o2 szs left) :
  ∃z∈szs,∃f,fw z.1.1 z.1.2<=f/\f<=left-fw z.2.1 z.2.2/\ps=[(o1,z.1.1,z.1.2,f),(o2,z.2.1,z.2.2,left-f)]:=by
 unfold aO at h;obtain⟨z,hz,h⟩:=List.mem_flatMap.mp h;obtain⟨f,hf,e⟩:=HJ.mp h;have:=lU.mp hf;exact⟨z,hz,f,this.1,⋯,e.symm⟩
theorem vy{r c:Nat}{z:(Nat×Nat)×(Nat×Nat)}(h:z∈bQ r c):z.1.1=r/\z.2.1=r/\1<=z.1.2/\1<=z.2.2/\z.1.2+z.2.2=c:=by
 obtain⟨i,hi,rfl⟩:=HJ.mp h;rw[List.mem_range]at hi;refine⟨rfl,rfl,?_,?_,?_⟩<;>show _<;>simp<;>omega
theorem v5{r c:Nat}{z:(Nat×Nat)×(Nat×Nat)}(h:z∈bR r c):z.1.2=c/\z.2.2=c/\1<=z.1.1/\1<=z.2.1/\z.1.1+z.2.1=r:=by
 obtain⟨i,hi,rfl⟩:=HJ.mp h;rw[List.mem_range]at hi;refine⟨rfl,rfl,?_,?_,?_⟩<;>show _<;>simp<;>omega
structure xO(r c:Nat)(z:(Nat×Nat)×(Nat×Nat)):Prop where
 a:1<=z.1.1
 b:1<=z.1.2
 d:1<=z.2.1
 e:1<=z.2.2
 ma:z.1.1<=max r c
 mb:z.1.2<=max r c
 md:z.2.1<=max r c
 me:z.2.2<=max r c
 fe:fw z.1.1 z.1.2+fw z.2.1 z.2.2+1=fw r c
theorem jx{r c:Nat}(hr:1<=r){z:(Nat×Nat)×(Nat×Nat)}(h:z∈bQ r c):xO r c z:=by
 obtain⟨h1,h2,h3,h4,h5⟩:=vy h;obtain⟨⟨a,b⟩,d,e⟩:=z;simp only at h1 h2 h3 h4 h5;subst h1 h2 h5;refine⟨hr,h3,hr,h4,by simp;omega,by simp;omega,by simp;omega,by simp;omega,?_⟩;simp only[gH,Nat.mul_add];omega
theorem jF{r c:Nat}(hc:1<=c){z:(Nat×Nat)×(Nat×Nat)}(h:z∈bR r c):xO r c z:=by
 obtain⟨h1,h2,h3,h4,h5⟩:=v5 h;obtain⟨⟨a,b⟩,d,e⟩:=z;simp only at h1 h2 h3 h4 h5;subst h1 h2 h5;refine⟨h3,hc,h4,hc,by simp;omega,by simp;omega,by simp;omega,by simp;omega,?_⟩;simp only[gH,Nat.add_mul];omega
theorem fT{q:Nat×RV}{r c:Nat}{k:Int}{ps:List TR}(h4:q.1<4)(hr:1<=r)(hc:1<=c)(h:ps∈bP q r c k) :
  ps=[]\/(∃p,ps=[p]/\p.1=q.2.o1/\p.2.2.2=k-q.2.c/\((p.2.1=r/\p.2.2.1=c)\/(p.2.1=c/\p.2.2.1=r))) \/
  ((q.1=1\/q.1=2)/\∃z f,xO r c z/\fw z.1.1 z.1.2<=f/\f<=k-q.2.c-fw z.2.1 z.2.2/\ps=[(q.2.o1,z.1.1,z.1.2,f),(q.2.o2,z.2.1,z.2.2,k-q.2.c-f)]):=by
 obtain⟨t,v⟩:=q;have:t=0\/t=1\/t=2\/t=3:=by simp at h4;omega
 rcases this with rfl | rfl | rfl | rfl
 ·left
  change ps∈(if r=1/\c=1/\k=v.c then[[]] else[]) at h
  split at h
  ·simpa using h
  ·simp at h
 ·right;right
  obtain⟨z,hz,f,h1,h2,h3⟩:=k7 (show ps∈aO v.o1 v.o2 (bQ r c) (k-v.c) from h);exact⟨.inl rfl,z,f,jx hr hz,h1,h2,h3⟩
 ·right;right
  obtain⟨z,hz,f,h1,h2,h3⟩:=k7 (show ps∈aO v.o1 v.o2 (bR r c) (k-v.c) from h);exact⟨.inr rfl,z,f,jF hc hz,h1,h2,h3⟩
 ·right;left
  change ps∈[[(v.o1,(if v.t%2=1 then c else r),(if v.t%2=1 then r else c),k-v.c)]]at h;refine⟨_,by simpa using h,rfl,rfl,?_⟩
  by_cases e:v.t%2=1
  ·right;simp[e]
  ·left;simp[e]
theorem lz{q:Nat×RV}{r c:Nat}{k:Int}{ps:List TR}{p:TR}(h4:q.1<4)(hq:1<=q.2.c)(hr:1<=r)(hc:1<=c)(h:ps∈bP q r c k)(hp:p∈ps):C7 q r c k p:=by
 rcases fT h4 hr hc h with rfl | ⟨p',rfl,e1,e2,e3⟩ | ⟨hk,z,f,sz,h1,h2,rfl⟩
 ·cases hp
 ·rw[G8.mp hp]
  refine⟨⋯,.inr ⋯,?_,?_,?_,?_,.inl e1⟩<;>rcases e3 with⟨a,b⟩ | ⟨a,b⟩<;>simp only[a,b]<;>omega
 ·have f1:=ck sz.a sz.b
  have f2:=ck sz.d sz.e;rcases(show p=_\/p=_ by simpa using hp) with rfl | rfl
  ·exact⟨by show f<k;omega,.inl (by show 1<=f;omega),sz.a,sz.b,sz.ma,sz.mb,.inl rfl⟩
  ·exact⟨by show k-q.2.c-f<k;omega,.inl (by show 1<=k-q.2.c-f;omega),sz.d,sz.e,sz.md,sz.me,.inr ⟨rfl,hk⟩⟩
theorem r9{f g:TR->Nat}:∀{ps:List TR},(∀p∈ps,f p=g p)->aM f ps=aM g ps:=by
 intro ps h;unfold aM
 suffices this:∀m,ps.foldl (λm p=>m*f p) m=ps.foldl (λm p=>m*g p) m from this 1
 induction ps with
 |nil=>intro m;rfl
 |cons p ps ih=>
  intro m;rw[List.foldl_cons,List.foldl_cons,h p List.mem_cons_self];exact ih (λp' hp'=>h p' (Hj _ hp')) _
def fz(rs:Yaa):Prop:=∀q∈rs,q.1<4/\1<=q.2.c/\q.2.c<=9
theorem fX{z:HY}{rs:Yaa}{q:Nat×RV}(h:q∈cj z rs):q∈rs/\q.2.n=z:=by
 unfold cj at h;rw[List.mem_filter,decide_eq_true_eq]at h;exact h
theorem wY{rs:Yaa}(hg:fz rs){f g:Nat}{p:TR}(h:∀p':TR,p'.2.2.2<p.2.2.2->cnt rs f p'=cnt rs g p'):cnt rs (f+1) p=cnt rs (g+1) p:=by
 unfold cnt
 split
 ·rfl
 ·rename_i hn
  congr 1
  refine List.map_congr_left λq hq=>?_
  congr 1
  refine List.map_congr_left λps hps=>r9 λp' hp'=>h p' ?_;obtain⟨h1,h2,_⟩:=hg q (fX hq).1;exact(lz h1 h2 ⋯ ⋯ hps hp').lt
theorem wO{rs:Yaa}{f:Nat}{p:TR}(h:p.2.2.2<1):cnt rs f p=0:=by
 cases f with
 |zero=>rfl
 |succ f=>
  unfold cnt
  split
  ·rfl
  ·rename_i hn
   have:=ck (r:=p.2.1) (c:=p.2.2.1) ⋯ ⋯;omega
theorem sX{rs:Yaa}(hg:fz rs):∀(f:Nat) (p:TR),p.2.2.2<(f:Int)+1->cnt rs (f+1) p=cnt rs f p
 |0,p,h=>by rw[wO (by simpa using h),wO (by simpa using h)]
 |f+1,p,h=>wY hg λp' hp'=>sX hg f p' (by push_cast at h;omega)
noncomputable abbrev CN(rs:Yaa)(p:TR):Nat:=cnt rs 17 p
theorem wj{rs:Yaa}(hg:fz rs){p:TR}(hk:p.2.2.2<=16):CN rs p=if p.2.1=0\/p.2.2.1=0\/6<p.2.1\/6<p.2.2.1\/p.2.2.2<fw p.2.1 p.2.2.1 then 0 else
  ((cj p.1 rs).map λq=>((bP q p.2.1 p.2.2.1 p.2.2.2).map λps=>aM (CN rs) ps).sum).sum:=by
 have e:cnt rs 17 p=cnt rs 18 p:=(sX hg 17 p (by push_cast;omega)).symm;unfold CN;rw[e]
 rfl
theorem vO{rs:Yaa}{p:TR}(h:p.2.2.2<fw p.2.1 p.2.2.1):CN rs p=0:=by
 unfold CN cnt;rw[if_pos ⋯]
theorem i9{α β:Type}{g:β->Nat}{f:α->List β}:∀l:List α,((l.flatMap f).map g).sum=(l.map λx=>((f x).map g).sum).sum
 | []=>rfl
 |x::l=>by rw[List.flatMap_cons,Hf,List.sum_append,i9 l,Hx,List.sum_cons]
theorem qF{α:Type}(g:α->Nat)(b:Nat):∀(l:List α),(∀x∈l,g x<=b)->(l.map g).sum<=l.length*b
 | [],_=>by simp
 |x::l,h=>by
  have h1:=qF g b l λy hy=>h y (Hj _ hy);have h2:=h x List.mem_cons_self;rw[Hx,List.sum_cons,He,Nat.add_mul];omega
theorem io(r c:Nat):(bQ r c).length=c-1:=by unfold bQ;rw[G7,List.length_range]
theorem ik(r c:Nat):(bR r c).length=r-1:=by unfold bR;rw[G7,List.length_range]
theorem eO{o1 o2:HY}{left:Int}{r c:Nat}(h15:left<=15):∀(szs:List ((Nat×Nat)×(Nat×Nat))),(∀z∈szs,xO r c z)->(aO o1 o2 szs left).length<=szs.length*15
 | [],_=>Hr _
 |z::szs,h=>by
  have ih:=eO (o1:=o1) (o2:=o2) h15 szs λz' hz'=>h z' (Hj _ hz');have f1:=ck (h z List.mem_cons_self).a (h z List.mem_cons_self).b;have f2:=ck (h z List.mem_cons_self).d (h z List.mem_cons_self).e;unfold aO at ih ⊢;rw[List.flatMap_cons,Hq,He,G7];unfold iY at ih ⊢;rw[G7,List.length_range];omega
noncomputable def dw(p:TR):List cE:=[.inr (tx p.1),.inl (p.2.1:Int),.inl (p.2.2.1:Int),.inl p.2.2.2]
noncomputable def oX(p:TR):List V:=[.str (tx p.1),.int (p.2.1:Int),.int (p.2.2.1:Int),.int p.2.2.2]
theorem gE{a b:HY}(h:tx a=tx b):a=b:=by
 have e:(tx a).cps.toList=(tx b).cps.toList:=by rw[h]
 rwa [dO,dO]at e
theorem AD{p q:TR}(h:dw p=dw q):p=q:=by
 obtain⟨a,b,c,d⟩:=p;obtain⟨a',b',c',d'⟩:=q;unfold dw at h;simp only[List.cons.injEq,Sum.inr.injEq,Sum.inl.injEq,and_true]at h;obtain⟨h1,h2,h3,h4⟩:=h;rw[gE h1,show b=b' by omega,show c=c' by omega,h4]
def sy(H:Hp)(l:Addr)(ps:List TR):Prop:=∃bs:List Addr,H l=some (.lst (bs.map V.ref))/\bs.length=ps.length/\∀(i:Nat) b p,bs[i]?=some b->ps[i]?=some p->H b=some (.tup (oX p))
def dU(H0 H:Hp)(l:Addr)(pss:List (List TR)):Prop:=∃as:List Addr,H l=some (.lst (as.map V.ref))/\as.length=pss.length/\∀(i:Nat) a ps,as[i]?=some a->pss[i]?=some ps->(H0 a=none/\a≠l)/\sy H a ps
theorem sy.up{H H':Hp}{l:Addr}{ps:List TR}(h:sy H l ps)(s:az H H'):sy H' l ps:=by
 obtain⟨bs,h1,h2,h3⟩:=h;exact⟨bs,s _ _ h1,h2,λi b p e1 e2=>s _ _ (h3 i b p e1 e2)⟩
theorem dU.up{H0 H H':Hp}{l:Addr}{pss:List (List TR)}(h:dU H0 H l pss)(s:az H H'):dU H0 H' l pss:=by
 obtain⟨as,h1,h2,h3⟩:=h;exact⟨as,s _ _ h1,h2,λi a ps e1 e2=>⟨(h3 i a ps e1 e2).1,(h3 i a ps e1 e2).2.up s⟩⟩
theorem sy.put{H:Hp}{l a:Addr}{ps:List TR}{o:HO}(h:sy H a ps)(hne:a≠l)(hl:∃xs,H l=some (.lst xs)):sy (au H l o) a ps:=by
 obtain⟨bs,h1,h2,h3⟩:=h;obtain⟨xs,hl⟩:=hl;exact⟨bs,by rw[ao hne];exact h1,h2,λi b p e1 e2=>by
  have e:=h3 i b p e1 e2;rw[ao (λz=>by rw[z,hl]at e;cases e)];exact e⟩
theorem dU.nil{H0 H:Hp}{l:Addr}(h:H l=some (.lst [])):dU H0 H l []:=⟨[],h,rfl,λi a ps e=>by simp at e⟩
theorem dU.app{H0 H:Hp}{l a:Addr}{pss:List (List TR)}{ps:List TR}{xs:List V}(h:dU H0 H l pss)(hx:H l=some (.lst xs))(ha:sy H a ps)(hf:H0 a=none)(hne:a≠l):dU H0 (au H l (.lst (xs++[V.ref a]))) l (pss++[ps]):=by
 obtain⟨as,h1,h2,h3⟩:=h;rw[hx]at h1;cases h1;refine⟨as++[a],by rw[ac,Hf];rfl,by rw[Hq,Hq,h2];rfl,λi b qs e1 e2=>?_⟩
 by_cases hi:i<as.length
 ·rw[Ho hi]at e1
  rw[Ho ⋯]at e2;have:=h3 i b qs e1 e2;exact⟨this.1,this.2.put this.1.2 ⟨_,hx⟩⟩
 ·have hi2:i=as.length:=by
   have:=(G5.mp e1).1;simp at this;omega
  subst hi2;rw[Hn (Hr _),Nat.sub_self]at e1;rw[h2,Hn (Hr _),Nat.sub_self]at e2;cases e1;cases e2
  exact⟨⟨hf,hne⟩,ha.put hne ⟨_,hx⟩⟩
theorem dU.old{H0 H1 H:Hp}{l:Addr}{pss:List (List TR)}(h:dU H1 H l pss)(s:az H0 H1):dU H0 H l pss:=by
 obtain⟨as,h1,h2,h3⟩:=h;exact⟨as,h1,h2,λi a ps e1 e2=>⟨⟨s.free (h3 i a ps e1 e2).1.1,(h3 i a ps e1 e2).1.2⟩,(h3 i a ps e1 e2).2⟩⟩
def BJ(H:Hp)(as:Ib)(szs:List ((Nat×Nat)×(Nat×Nat))):Prop:=as.length=szs.length/\∀(i:Nat) a z,as[i]?=some a->szs[i]?=some z->∃x y,H a=some (.tup [.ref x,.ref y])/\H x=some (.tup [.int (z.1.1:Int),.int (z.1.2:Int)])/\H y=some (.tup [.int (z.2.1:Int),.int (z.2.2:Int)])
def FP(H:Hp)(l:Addr)(szs:List ((Nat×Nat)×(Nat×Nat))):Prop:=∃as:List Addr,H l=some (.lst (as.map V.ref))/\BJ H as szs
theorem BJ.up{H H':Hp}{as:Ib}{szs:List ((Nat×Nat)×(Nat×Nat))}(h:BJ H as szs)(s:az H H'):BJ H' as szs:=⟨h.1,λi a z e1 e2=>by
 obtain⟨x,y,h1,h2,h3⟩:=h.2 i a z e1 e2;exact⟨x,y,s _ _ h1,s _ _ h2,s _ _ h3⟩⟩
theorem BJ.snoc{H:Hp}{as:Ib}{szs:List ((Nat×Nat)×(Nat×Nat))}{a x y:Addr}{z:(Nat×Nat)×(Nat×Nat)}(h:BJ H as szs)(h1:H a=some (.tup [.ref x,.ref y]))(h2:H x=some (.tup [.int (z.1.1:Int),.int (z.1.2:Int)]))(h3:H y=some (.tup [.int (z.2.1:Int),.int (z.2.2:Int)])):BJ H (as++[a]) (szs++[z]):=by
 refine⟨by rw[Hq,Hq,h.1];rfl,λi b w e1 e2=>?_⟩
 by_cases hi:i<as.length
 ·rw[Ho hi]at e1
  rw[Ho (by rw[<- h.1];exact hi)]at e2;exact h.2 i b w e1 e2
 ·have hi2:i=as.length:=by
   have:=(G5.mp e1).1;simp at this;omega
  subst hi2;rw[Hn (Hr _),Nat.sub_self]at e1;rw[h.1,Hn (Hr _),Nat.sub_self]at e2;cases e1;cases e2
  exact⟨x,y,h1,h2,h3⟩
def cW(d1 d2:Addr)(H H':Hp):Prop:=∀x o,x≠d1->x≠d2->H x=some o->H' x=some o
theorem cW.of{d1 d2:Addr}{H H':Hp}(s:az H H'):cW d1 d2 H H':=λx o _ _ e=>s x o e
theorem cW.trans{d1 d2:Addr}{H H1 H2:Hp}(a:cW d1 d2 H H1)(b:cW d1 d2 H1 H2):cW d1 d2 H H2:=λx o h1 h2 e=>b x o h1 h2 (a x o h1 h2 e)
theorem cW.put1{d1 d2:Addr}{H:Hp}{o:HO}:cW d1 d2 H (au H d1 o):=λx u h1 _ e=>by rw[ao h1];exact e
theorem cW.put2{d1 d2:Addr}{H:Hp}{o:HO}:cW d1 d2 H (au H d2 o):=λx u _ h2 e=>by rw[ao h2];exact e
noncomputable def Dv:HO->Prop | .dT _=>True | _=>False
def Kp(H H':Hp):Prop:=∀x o,¬ Dv o->H x=some o->H' x=some o
theorem Kp.of{H H':Hp}(s:az H H'):Kp H H':=λx o _ e=>s x o e
theorem Kp.put{H:Hp}{d:Addr}{m:List (List cE×V)}{o:HO}(hd:H d=some (.dT m)):Kp H (au H d o):=λx u h e=>by
 rw[ao (λz=>by rw[z,hd]at e;cases e;exact h trivial)];exact e
theorem Kp.lst{H H':Hp}(s:Kp H H'){a:Addr}{xs:List V}(h:H a=some (.lst xs)):H' a=some (.lst xs):=s _ _ id h
theorem Kp.tup{H H':Hp}(s:Kp H H'){a:Addr}{xs:List V}(h:H a=some (.tup xs)):H' a=some (.tup xs):=s _ _ id h
theorem Kp.ins{H H':Hp}(s:Kp H H'){a C dx:Addr}{fs:List (Str×V)}(h:H a=some (.ins C dx fs)):H' a=some (.ins C dx fs):=s _ _ id h
theorem Kp.dK{H H':Hp}(s:Kp H H'){a:Addr}{fs:List (cE×V)}(h:H a=some (.dK fs)):H' a=some (.dK fs):=s _ _ id h
theorem sy.kp{H H':Hp}{l:Addr}{ps:List TR}(h:sy H l ps)(s:Kp H H'):sy H' l ps:=by
 obtain⟨bs,h1,h2,h3⟩:=h;exact⟨bs,s.lst h1,h2,λi b p e1 e2=>s.tup (h3 i b p e1 e2)⟩
theorem bo.kp{R:RC}{H H':Hp}{as:Ib}{rs:Yaa}(h:bo R H as rs)(s:Kp H H'):bo R H' as rs:=by
 refine⟨h.1,λi b r e1 e2=>?_⟩;obtain⟨d,l,h1,h2⟩:=h.2 i b r e1 e2;exact⟨d,l,s.ins h1,s.lst h2⟩
theorem dX.kp{R:RC}{H H':Hp}{C dx a:Addr}{sg st:HY}{as:Ib}{rs:Yaa}(g:dX R H C dx a sg st as rs)(s:Kp H H'):dX R H' C dx a sg st as rs:=by
 obtain⟨lk,pn,t,h1,h2,h3,h4,h5⟩:=g;exact⟨lk,pn,t,s.ins h1,s.lst h2,h3.kp s,⟨s.dK h4.dict,λx hx=>s.lst (h4.list x hx),h4.apart⟩,h5⟩
noncomputable abbrev ow:Stmt:=kD 30
inductive jE(K:W.Frag)(vs:List V)(H:Hp)(Q:VK)(_E:XK):Prop
 |mk (a:Addr) (r c:Nat) (_:vs=[.ref a]) (_:bx K H a [.int (r:Int),.int (c:Int)]) (_:r<=100) (_:c<=100) (_:Q (.int (fw r c)) H)
theorem xq:ay ["size"] ["size"] (ak ow):=by walk_at "c"
theorem xc{f:Addr}{fd:Ie}(F:cY K "fewest" "fewest" ow f fd):aZ P w K mg base bF 1 f fd ["size"] (jE K):=by
 have sc:=xq;walk_at "f"
 ·obtain⟨a,r,c,rfl,_⟩:=h;rfl
 ·obtain⟨a,r,c,rfl,sq,hr3,hc3,q⟩:=h
  refine⟨_,(ai (aG (ar (aW.m0 dc) (ar (aW.m1 dN) (ar (aW.m1 dN) ah (aD aF (al 0) ah (λ_ _=>rfl))) (aD aF (al 0) ah (λ_ _=>rfl))) ah))),?_⟩;walk_at "wp";exact⟨_,sq,_,rfl,_,rfl,_,sq,_,rfl,_,rfl,.inl ⟨⋯,⋯⟩,q⟩
theorem jI{H:Hp}{a b:Addr}{xs ys:List V}{Q:VK}(ha:H a=some (.tup xs))(hb:H b=some (.tup ys))(hx:xs≠[])(hy:ys≠[])(hz:xs.length+ys.length<=1000)(q:∀p,H p=none->Q (.ref p) (au H p (.tup (xs++ys)))):zy K (.ref a) (.ref b) H Q:=
 ⟨a,b,xs,ys,rfl,rfl,bx.of ha,bx.of hb,hx,am ⋯,λe=>absurd e hy,λ_=>q⟩
noncomputable abbrev gs:Stmt:=kD 31
inductive fE(K:W.Frag)(vs:List V)(H:Hp)(Q:VK)(_E:XK):Prop
 |mk (a C dx lp l:Addr) (n o1 o2:HY) (c left:Int) (szs:List ((Nat×Nat)×(Nat×Nat))) (rr cc:Nat) (_:vs=[.ref a,.ref l,.int left]) (_:H a=some (.ins C dx (wB n c lp o1 o2))) (_:kS K C) (_:aq K C "one") (_:aq K C "other") (_:FP H l szs) (_:szs.length<=10) (_:(∀z∈szs,xO rr cc z)) (_:rr<=6) (_:cc<=6) (_:left<=15) (_:-100<=left) (_:∀l' H',H l'=none->dU H H' l' (aO o1 o2 szs left)->az H H'->Q (.ref l') H')
theorem nN:ay ["rule","sizes","left","found","one","other","first"] ["rule","sizes","left"] (ak gs):=by walk_at "c"
theorem dU.len{H0 H:Hp}{l:Addr}{pss:List (List TR)}{xs:List V}(h:dU H0 H l pss)(hx:H l=some (.lst xs)):xs.length=pss.length:=by
 obtain⟨as,h1,h2,_⟩:=h;rw[hx]at h1;cases h1;rw[G7,h2]
theorem ph{o1 o2:HY}{left:Int}{szs:List ((Nat×Nat)×(Nat×Nat))}{i:Nat}{z:(Nat×Nat)×(Nat×Nat)}(h:szs[i]?=some z):aO o1 o2 (szs.take (i+1)) left=aO o1 o2 (szs.take i) left++(iY (fw z.1.1 z.1.2) (left-fw z.2.1 z.2.2+1)).map λf=>[(o1,z.1.1,z.1.2,f),(o2,z.2.1,z.2.2,left-f)]:=by
 unfold aO;rw[List.take_add_one,h,List.flatMap_append];simp
theorem nB{f:Addr}{fd:Ie}(F:cY K "paired_rows" "paired_rows" gs f fd)(nb:NB mg)(yad:fF P w K mg base bF 1 "fewest" ["size"] (jE K)):aZ P w K mg base bF 2 f fd ["rule","sizes","left"] (fE K):=by
 have sc:=nN;walk_at "f"
 ·obtain⟨a,C,dx,lp,l,n,o1,o2,c,left,szs,rr,cc,rfl,_⟩:=h;rfl
 ·obtain⟨a,C,dx,lp,l,n,o1,o2,c,left,szs,rr,cc,rfl,ha,cl,n1,n2,⟨as,hl,hal,hat⟩,hsz,hok,rr6,cc6,hl15,hlm,q⟩:=h
  refine⟨_,(ae (aB (i:=3) sc.nd rfl (Or.inl rfl) (bq ad))
   (ae (bD PassesOwn.never rfl (bX (al 1)) (gI (n:=2) rfl (aL (av (i:=4) sc.nd rfl (Or.inl rfl)) (aL (av (i:=5) sc.nd rfl (Or.inl rfl)) c_)))
   (ai (bD PassesOwn.never rfl (gW rfl nb.range (aa (aK yad (hr.mono nofun) rfl bg (aa (al 4) ad)) (aa (ar (aW.m0 bN) (ar (aW.m0 dc) (al 2) (aK yad (hr.mono nofun) rfl bg (aa (al 5) ad))) ah) ad))) (av (i:=6) sc.nd rfl (Or.inl rfl))
   (ai (bu (gX PySem.F.plainAttrs_list PySem.F.slot_list_append PySem.F.type_list_append cA (al 3) (aa (bq (aa (ar il (ar il (aY (aa (aV (al 0) rfl) ad)) (al 4)) (aY (aa (al 6) ad))) (aa (ar il (ar il (aY (aa (aV (al 0) rfl) ad)) (al 5)) (aY (aa (ar (aW.m0 dc) (al 2) (al 6)) ad))) ad))) ad)))))))
   (ai (aG (al 3))))),?_⟩
  walk_at "n";refine⟨am nofun,λlf hlf=>h1 _ _ ?_⟩;clear h1;have s1:=af (o:=.lst []) hlf;have e1:au H lf (.lst []) lf=some (.lst []):=ac;generalize au H lf (.lst [])=H1 at s1 e1 ⊢;walk_at "n";refine⟨⟨_,aN.of (s1 _ _ hl)⟩,?_⟩;refine cR (xs:=as.map V.ref) (λi σ H'=>az H H'/\i<=as.length/\dU H H' lf (aO o1 o2 (szs.take i) left)/\∃x y z,σ=[some (V.ref a),some (V.ref l),some (V.int left),some (V.ref lf),x,y,z]) ⟨s1,Hs _,dU.nil e1,_,_,_,rfl⟩ (λi σ H' _ h=>aN.of (h.1 _ _ hl)) ?_ ?_
  ·rintro i x σ H' hx ⟨sm,hi,hT,x1,y1,z1,rfl⟩
   have hlt:i<as.length:=by have:=(G5.mp hx).1;rwa [G7]at this
   rw[G9,G4 hlt]at hx;cases hx;have hzi:szs[i]?=some (szs[i]'⋯):=G4 ⋯;have zok:=hok _ (Hc (show i<szs.length by omega));have hpt:=ph (o1:=o1) (o2:=o2) (left:=left) hzi;obtain⟨tx1,ty1,ht,htx,hty⟩:=hat i as[i] _ (G4 hlt) hzi;generalize szs[i]'⋯=z at zok hpt htx hty;obtain⟨⟨r1,c1⟩,r2,c2⟩:=z;have ma:=zok.ma;have mb:=zok.mb;have md:=zok.md;have me:=zok.me;have f1:=ck zok.a zok.b;have f2:=ck zok.d zok.e;simp only at ma mb md me hpt htx hty f1 f2;have g1:fw r1 c1<=1000:=by
    rw[gH];have:r1*c1<=6*6:=Nat.mul_le_mul ⋯ ⋯;omega
   have g2:fw r2 c2<=1000:=by
    rw[gH];have:r2*c2<=6*6:=Nat.mul_le_mul ⋯ ⋯;omega
   walk_at "wp";refine⟨_,bx.of (sm _ _ ht),rfl,_,_,rfl,_,_,rfl,rfl,tx1,r1,c1,rfl,bx.of (sm _ _ htx),⋯,⋯,ty1,r2,c2,rfl,bx.of (sm _ _ hty),⋯,⋯,_,rfl,_,rfl,⋯,⋯,⋯,⋯,?_⟩;refine cH (λj σ H'=>az H H'/\dU H H' lf (aO o1 o2 (szs.take i) left++((List.range j).map fun(j:Nat)=>fw r1 c1+(j:Int)).map λf=>[(o1,r1,c1,f),(o2,r2,c2,left-f)])/\∃z,σ=[some (V.ref a),some (V.ref l),some (V.int left),some (V.ref lf),some (V.ref tx1),some (V.ref ty1),z]) ⟨sm,by simpa using hT,_,rfl⟩ ?_ ?_
   ·rintro j σ H2 hj ⟨sm2,hT2,z,rfl⟩
    walk_at "wp";obtain⟨xs,hxs⟩:∃xs,H2 lf=some (.lst xs):=let ⟨as2,h,_⟩:=hT2;⟨_,h⟩
    have hxl:=hT2.len hxs;refine⟨.inl ⟨rfl,_,aN.of hxs⟩,C,dx,_,sm2 _ _ ha,cl,n1,_,rfl,am nofun,λp1 hp1=>?_⟩;have t1:=af (o:=.tup [V.str (tx o1)]) hp1;refine jI ac (t1 _ _ (sm2 _ _ htx)) (by simp) (by simp) (by simp) λp2 hp2=>⟨am nofun,λp3 hp3=>?_⟩;have t2:=t1.trans (af (o:=.tup ([V.str (tx o1)]++[V.int (r1:Int),V.int (c1:Int)])) hp2);have e2:au (au H2 p1 (.tup [V.str (tx o1)])) p2 (.tup ([V.str (tx o1)]++[V.int (r1:Int),V.int (c1:Int)])) p2=some (.tup [V.str (tx o1),V.int (r1:Int),V.int (c1:Int)]):=ac;generalize au (au H2 p1 (.tup [V.str (tx o1)])) p2 (.tup ([V.str (tx o1)]++[V.int (r1:Int),V.int (c1:Int)]))=A2 at t2 e2 hp3 ⊢;have t3:=af (o:=.tup [V.int (fw r1 c1+(j:Int))]) hp3;refine jI (t3 _ _ e2) ac (by simp) (by simp) (by simp) λp4 hp4=>?_;have t4:=(t2.trans t3).trans (af (o:=.tup ([V.str (tx o1),V.int (r1:Int),V.int (c1:Int)]++[V.int (fw r1 c1+(j:Int))])) hp4);have e4:au (au A2 p3 (.tup [V.int (fw r1 c1+(j:Int))])) p4 (.tup ([V.str (tx o1),V.int (r1:Int),V.int (c1:Int)]++[V.int (fw r1 c1+(j:Int))])) p4=some (.tup (oX (o1,r1,c1,fw r1 c1+(j:Int)))):=ac;generalize au (au A2 p3 (.tup [V.int (fw r1 c1+(j:Int))])) p4 (.tup ([V.str (tx o1),V.int (r1:Int),V.int (c1:Int)]++[V.int (fw r1 c1+(j:Int))]))=A4 at t4 e4 ⊢;have s4:=sm2.trans t4;refine⟨C,dx,_,s4 _ _ ha,cl,n2,_,rfl,am nofun,λp5 hp5=>?_⟩;have t5:=af (o:=.tup [V.str (tx o2)]) hp5;refine jI ac (t5 _ _ (s4 _ _ hty)) (by simp) (by simp) (by simp) λp6 hp6=>⟨am nofun,λp7 hp7=>?_⟩;have t6:=t5.trans (af (o:=.tup ([V.str (tx o2)]++[V.int (r2:Int),V.int (c2:Int)])) hp6);have e6:au (au A4 p5 (.tup [V.str (tx o2)])) p6 (.tup ([V.str (tx o2)]++[V.int (r2:Int),V.int (c2:Int)])) p6=some (.tup [V.str (tx o2),V.int (r2:Int),V.int (c2:Int)]):=ac;generalize au (au A4 p5 (.tup [V.str (tx o2)])) p6 (.tup ([V.str (tx o2)]++[V.int (r2:Int),V.int (c2:Int)]))=A6 at t6 e6 hp7 ⊢;have t7:=af (o:=.tup [V.int (left-(fw r1 c1+(j:Int)))]) hp7;refine jI (t7 _ _ e6) ac (by simp) (by simp) (by simp) λp8 hp8=>?_;have t8:=(t6.trans t7).trans (af (o:=.tup ([V.str (tx o2),V.int (r2:Int),V.int (c2:Int)]++[V.int (left-(fw r1 c1+(j:Int)))])) hp8);have e8:au (au A6 p7 (.tup [V.int (left-(fw r1 c1+(j:Int)))])) p8 (.tup ([V.str (tx o2),V.int (r2:Int),V.int (c2:Int)]++[V.int (left-(fw r1 c1+(j:Int)))])) p8=some (.tup (oX (o2,r2,c2,left-(fw r1 c1+(j:Int))))):=ac;generalize au (au A6 p7 (.tup [V.int (left-(fw r1 c1+(j:Int)))])) p8 (.tup ([V.str (tx o2),V.int (r2:Int),V.int (c2:Int)]++[V.int (left-(fw r1 c1+(j:Int)))]))=A8 at t8 e8 ⊢;refine⟨am nofun,λp9 hp9=>?_⟩;have t9:=af (o:=.lst [V.ref p4,V.ref p8]) hp9;have e9:au A8 p9 (.lst [V.ref p4,V.ref p8]) p9=some (.lst [V.ref p4,V.ref p8]):=ac;have n9:p9≠lf:=λe=>by rw[e,t8 _ _ (t4 _ _ hxs)]at hp9;cases hp9
    generalize au A8 p9 (.lst [V.ref p4,V.ref p8])=A9 at t9 e9 ⊢;have s9:=(t4.trans t8).trans t9;have hx9:=s9 _ _ hxs;have hrow:sy A9 p9 [(o1,r1,c1,fw r1 c1+(j:Int)),(o2,r2,c2,left-(fw r1 c1+(j:Int)))]:=⟨[p4,p8],e9,rfl,λi b p x1 x2=>by
     match i,x1,x2 with
     |0,x1,x2=>cases x1;cases x2;exact(t8.trans t9) _ _ e4
     |1,x1,x2=>cases x1;cases x2;exact t9 _ _ e8⟩
    have hlen:(aO o1 o2 (szs.take i) left).length<=150:=Hy (eO (r:=rr) (c:=cc) hl15 _ λz hz=>hok z (List.mem_of_mem_take hz)) (by rw[HF];omega);refine⟨_,hx9,?_,?_⟩
    ·rw[hxl,Hq,G7,G7,List.length_range];exact bb ⋯
    ·refine⟨dI (sm2.trans s9) hlf,?_⟩
     rw[List.range_succ,Hf,Hf,<- HC];exact(hT2.up s9).app hx9 hrow (sm2.free (t4.free (t8.free hp9))) n9
   ·rintro σ H2 ⟨sm2,hT2,z,rfl⟩
    refine⟨sm2,hlt,?_,_,_,_,rfl⟩;rw[hpt];exact hT2
  ·rintro σ H' ⟨sm,_,hT,x1,y1,z1,rfl⟩
   refine h1 _ _ ?_;walk_at "wp";rw[G7,hal,HE]at hT;exact q lf H' hlf hT sm
inductive da(C:Addr)(t:Nat)(vs:List V)(H:Hp)(Q:VK)(_E:XK):Prop
 |mk (a dx lp:Addr) (v:RV) (r c:Nat) (k:Int) (_:vs=[.ref a,.int (r:Int),.int (c:Int),.int k]) (_:H a=some (.ins C dx (tW t lp v))) (_:1<=r) (_:r<=6) (_:1<=c) (_:c<=6) (_:k<=16) (_:1<=k) (_:1<=v.c) (_:v.c<=9) (_:0<=v.t) (_:∀l H',H l=none->dU H H' l (bP (t,v) r c k)->az H H'->Q (.ref l) H')
noncomputable abbrev dl:Stmt:=eW 25 5
theorem qB:ay ["self","rows","columns","cost"] ["self","rows","columns","cost"] (ak dl):=by walk_at "c"
theorem sy.nil{H:Hp}{l:Addr}(h:H l=some (.lst [])):sy H l []:=⟨[],h,rfl,λi a ps e=>by simp at e⟩
theorem dU.one{H0 H:Hp}{l a:Addr}{ps:List TR}(h:H l=some (.lst [.ref a]))(ha:sy H a ps)(hf:H0 a=none)(hne:a≠l):dU H0 H l [ps]:=⟨[a],h,rfl,λi b qs e1 e2=>by
 match i,e1,e2 with
 |0,e1,e2=>cases e1;cases e2;exact⟨⟨hf,hne⟩,ha⟩⟩
theorem Dr{a b c d e f:Int}:iV [V.int a,V.int b,V.int c] [V.int d,V.int e,V.int f]=decide (a=d/\b=e/\c=f):=by
 have e0:iV [V.int a,V.int b,V.int c] [V.int d,V.int e,V.int f]=(((a==d)&&((b==e)&&((c==f)&&true)))&&true):=rfl;rw[e0]
 by_cases h1:a=d<;>by_cases h2:b=e<;>by_cases h3:c=f<;>simp[h1,h2,h3]
theorem rh{f C:Addr}{fd:Ie}(F:cY K "part_rows" "CellRule.part_rows" dl f fd)(nb:NB mg)(cl:kS K C)(na:aq K C "cost"):aZ P w K mg base bF 1 f fd ["self","rows","columns","cost"] (da C 0):=by
 have sc:=qB;walk_at "f"
 ·obtain⟨a,dx,lp,v,r,c,k,rfl,_⟩:=h;rfl
 ·obtain⟨a,dx,lp,v,r,c,k,rfl,ha,r1,r6,c1,c6,k16,k1,vc,vc9,vt,q⟩:=h
  have hu:=hr.units;refine⟨_,(ai (aG (iO (aE (zq hu) (aY (aa (al 1) (aa (al 2) (aa (al 3) ad)))) (aY (bc (bc (aa (aV (al 0) rfl) ad)))) (aI _)) (bq (aa (bq ad) ad)) (bq ad)))),?_⟩;walk_at "wp";refine⟨am nofun,λp hp=>⟨C,dx,_,af hp _ _ ha,cl,na,_,rfl,am nofun,λp1 hp1=>⟨_,bx.of (af hp1 _ _ ac),_,bx.of ac,rfl,rfl,?_⟩⟩⟩;have s2:=(af (o:=.tup [V.int (r:Int),V.int (c:Int),V.int k]) hp).trans (af (o:=.tup [V.int 1,V.int 1,V.int v.c]) hp1);generalize au (au H p (.tup [V.int (r:Int),V.int (c:Int),V.int k])) p1 (.tup [V.int 1,V.int 1,V.int v.c])=H2 at s2 ⊢;rw[Dr];have hp0:bP (0,v) r c k=if r=1/\c=1/\k=v.c then[[]] else[]:=rfl
  rw[hp0]at q
  by_cases hh:r=1/\c=1/\k=v.c
  ·rw[if_pos (by simp;omega)]
   rw[if_pos hh]at q;refine⟨Hs _,λp2 hp2=>⟨am nofun,λp3 hp3=>?_⟩⟩;have t2:=af (o:=.lst []) hp2;have t3:=af (o:=.lst [V.ref p2]) hp3;have ne:p2≠p3:=λe=>by rw[<- e,ac]at hp3;cases hp3
   exact q p3 _ (s2.free (t2.free hp3)) (dU.one ac (sy.nil (t3 _ _ ac)) (s2.free hp2) ne) ((s2.trans t2).trans t3)
  ·rw[if_neg (by simp;omega)]
   rw[if_neg hh]at q;exact⟨Hs _,λp2 hp2=>q p2 _ (s2.free hp2) (dU.nil ac) (s2.trans (af hp2))⟩
noncomputable abbrev cz:Stmt:=eW 26 5
theorem oh:ay ["self","rows","columns","cost","sizes"] ["self","rows","columns","cost"] (ak cz):=by walk_at "c"
theorem xZ{r c i:Nat}(h:i<c-1):(bQ r c)[i]?=some ((r,1+i),(r,c-(1+i))):=by
 unfold bQ;rw[G9,List.getElem?_range h];rfl
theorem nM{f C:Addr}{fd:Ie}(F:cY K "part_rows" "BesideRule.part_rows" cz f fd)(nb:NB mg)(cl:kS K C)(na:aq K C "cost"/\aq K C "one"/\aq K C "other")(yao:fF P w K mg base bF 2 "paired_rows" ["rule","sizes","left"] (fE K)):aZ P w K mg base bF 3 f fd ["self","rows","columns","cost"] (da C 1):=by
 have sc:=oh;walk_at "f"
 ·obtain⟨a,dx,lp,v,r,c,k,rfl,_⟩:=h;rfl
 ·obtain⟨a,dx,lp,v,r,c,k,rfl,ha,r1,r6,c1,c6,k16,k1,vc,vc9,vt,q⟩:=h
  have hu:=hr.units;refine⟨_,(ae (dM (i:=4) ["at"] [1,2] sc.nd rfl (Or.inl rfl) rfl  rfl (bv.of (by kernel_rfl)) (by kernel_rfl) (gW rfl nb.range (bc (aa (al 2) ad)))
    (λ_ _ _ _=>(av (i:=0) (by show(["at","rows","columns"]:List Str).Nodup;decide +kernel) rfl (Or.inl rfl))) (λ_ _ _ _=>cD) (λ_ _ _ _=>(aY (aa (aY (aa (al 1) (aa (al 0) ad))) (aa (aY (aa (al 1) (aa (ar (aW.m0 dc) (al 2) (al 0)) ad))) ad)))))
   (ai (aG (aK yao (hr.mono nofun) rfl bg (aa (al 0) (aa (al 4) (aa (ar (aW.m0 dc) (al 3) (aV (al 0) rfl)) ad))))))),?_⟩
  walk_at "n";refine⟨⋯,⋯,⋯,?_⟩;have en:((c:Int)-1).toNat=c-1:=by omega
  rw[en];refine fb (λi acc σ H'=>az H H'/\i<=c-1/\(∃as:List Addr,acc=as.map V.ref/\BJ H' as ((bQ r c).take i))/\∃z,σ=[z,some (V.int (r:Int)),some (V.int (c:Int))]) ⟨λ_ _ e=>e,Hs _,⟨[],rfl,rfl,λi a z e=>by simp at e⟩,_,rfl⟩ ?_ (λi acc σ H' h=>h.2.1) ?_ ?_
  ·rintro i acc σ H' ⟨_,hi,⟨as,rfl,he⟩,_⟩
   rw[G7,he.1,HF];exact bb ⋯
  ·rintro i acc σ H' hi ⟨sm,_,⟨as,rfl,he⟩,z,rfl⟩
   walk_at "wp";refine⟨am nofun,λp1 hp1=>⟨am nofun,λp2 hp2=>⟨am nofun,λp3 hp3=>?_⟩⟩⟩;have t1:=af (o:=.tup [V.int (r:Int),V.int (1+(i:Int))]) hp1;have t2:=af (o:=.tup [V.int (r:Int),V.int ((c:Int)-(1+(i:Int)))]) hp2;have t3:=af (o:=.tup [V.ref p1,V.ref p2]) hp3;have t:=(t1.trans t2).trans t3;refine⟨sm.trans t,hi,as++[p3],by rw[Hf];rfl,?_⟩;rw[List.take_add_one,xZ hi];exact(he.up t).snoc (x:=p1) (y:=p2) ac ((t2.trans t3) _ _ (by rw[ac];rw[show(1+(i:Int))=((1+i:Nat):Int) by push_cast;rfl])) (t3 _ _ (by rw[ac];rw[show((c:Int)-(1+(i:Int)))=((c-(1+i):Nat):Int) by omega]))
  rintro acc σ H1 ⟨s1,_,⟨as,rfl,he⟩,z,rfl⟩ l hl;refine h1 _ _ ?_;clear h1;have s2:=af (o:=.lst (as.map V.ref)) hl;have e2:au H1 l (.lst (as.map V.ref)) l=some (.lst (as.map V.ref)):=ac;generalize au H1 l (.lst (as.map V.ref))=H2 at s2 e2 ⊢;have s02:=s1.trans s2;rw[List.take_of_length_le (by rw[io];omega)]at he;walk_at "wp";refine⟨C,dx,_,s02 _ _ ha,cl,na.1,_,rfl,_,rfl,a,C,dx,lp,l,v.n,v.o1,v.o2,v.c,k-v.c,bQ r c,r,c,rfl,s02 _ _ ha,cl,na.2.1,na.2.2,⟨as,e2,he.up s2⟩,by rw[io];omega,λz hz=>jx r1 hz,r6,c6,⋯,⋯,λl' H' hl' hT s3=>q l' H' (s02.free hl') (hT.old s02) (s02.trans s3)⟩
noncomputable abbrev cS:Stmt:=eW 27 5
theorem o9:ay ["self","rows","columns","cost","sizes"] ["self","rows","columns","cost"] (ak cS):=by walk_at "c"
theorem xk{r c i:Nat}(h:i<r-1):(bR r c)[i]?=some ((1+i,c),(r-(1+i),c)):=by
 unfold bR;rw[G9,List.getElem?_range h];rfl
theorem oP{f C:Addr}{fd:Ie}(F:cY K "part_rows" "AboveRule.part_rows" cS f fd)(nb:NB mg)(cl:kS K C)(na:aq K C "cost"/\aq K C "one"/\aq K C "other")(yao:fF P w K mg base bF 2 "paired_rows" ["rule","sizes","left"] (fE K)):aZ P w K mg base bF 3 f fd ["self","rows","columns","cost"] (da C 2):=by
 have sc:=o9;walk_at "f"
 ·obtain⟨a,dx,lp,v,r,c,k,rfl,_⟩:=h;rfl
 ·obtain⟨a,dx,lp,v,r,c,k,rfl,ha,r1,r6,c1,c6,k16,k1,vc,vc9,vt,q⟩:=h
  have hu:=hr.units;refine⟨_,(ae (dM (i:=4) ["at"] [2,1] sc.nd rfl (Or.inl rfl) rfl  rfl (bv.of (by kernel_rfl)) (by kernel_rfl) (gW rfl nb.range (bc (aa (al 1) ad)))
    (λ_ _ _ _=>(av (i:=0) (by show(["at","columns","rows"]:List Str).Nodup;decide +kernel) rfl (Or.inl rfl))) (λ_ _ _ _=>cD) (λ_ _ _ _=>(aY (aa (aY (aa (al 0) (aa (al 1) ad))) (aa (aY (aa (ar (aW.m0 dc) (al 2) (al 0)) (aa (al 1) ad))) ad)))))
   (ai (aG (aK yao (hr.mono nofun) rfl bg (aa (al 0) (aa (al 4) (aa (ar (aW.m0 dc) (al 3) (aV (al 0) rfl)) ad))))))),?_⟩
  walk_at "n";refine⟨⋯,⋯,⋯,?_⟩;have en:((r:Int)-1).toNat=r-1:=by omega
  rw[en];refine fb (λi acc σ H'=>az H H'/\i<=r-1/\(∃as:List Addr,acc=as.map V.ref/\BJ H' as ((bR r c).take i))/\∃z,σ=[z,some (V.int (c:Int)),some (V.int (r:Int))]) ⟨λ_ _ e=>e,Hs _,⟨[],rfl,rfl,λi a z e=>by simp at e⟩,_,rfl⟩ ?_ (λi acc σ H' h=>h.2.1) ?_ ?_
  ·rintro i acc σ H' ⟨_,hi,⟨as,rfl,he⟩,_⟩
   rw[G7,he.1,HF];exact bb ⋯
  ·rintro i acc σ H' hi ⟨sm,_,⟨as,rfl,he⟩,z,rfl⟩
   walk_at "wp";refine⟨am nofun,λp1 hp1=>⟨am nofun,λp2 hp2=>⟨am nofun,λp3 hp3=>?_⟩⟩⟩;have t1:=af (o:=.tup [V.int (1+(i:Int)),V.int (c:Int)]) hp1;have t2:=af (o:=.tup [V.int ((r:Int)-(1+(i:Int))),V.int (c:Int)]) hp2;have t3:=af (o:=.tup [V.ref p1,V.ref p2]) hp3;have t:=(t1.trans t2).trans t3;refine⟨sm.trans t,hi,as++[p3],by rw[Hf];rfl,?_⟩;rw[List.take_add_one,xk hi];exact(he.up t).snoc (x:=p1) (y:=p2) ac ((t2.trans t3) _ _ (by rw[ac];rw[show(1+(i:Int))=((1+i:Nat):Int) by push_cast;rfl])) (t3 _ _ (by rw[ac];rw[show((r:Int)-(1+(i:Int)))=((r-(1+i):Nat):Int) by omega]))
  rintro acc σ H1 ⟨s1,_,⟨as,rfl,he⟩,z,rfl⟩ l hl;refine h1 _ _ ?_;clear h1;have s2:=af (o:=.lst (as.map V.ref)) hl;have e2:au H1 l (.lst (as.map V.ref)) l=some (.lst (as.map V.ref)):=ac;generalize au H1 l (.lst (as.map V.ref))=H2 at s2 e2 ⊢;have s02:=s1.trans s2;rw[List.take_of_length_le (by rw[ik];omega)]at he;walk_at "wp";refine⟨C,dx,_,s02 _ _ ha,cl,na.1,_,rfl,_,rfl,a,C,dx,lp,l,v.n,v.o1,v.o2,v.c,k-v.c,bR r c,r,c,rfl,s02 _ _ ha,cl,na.2.1,na.2.2,⟨as,e2,he.up s2⟩,by rw[ik];omega,λz hz=>jF c1 hz,r6,c6,⋯,⋯,λl' H' hl' hT s3=>q l' H' (s02.free hl') (hT.old s02) (s02.trans s3)⟩
noncomputable abbrev dr:Stmt:=eW 28 5
theorem rp:ay ["self","rows","columns","cost","size"] ["self","rows","columns","cost"] (ak dr):=by walk_at "c"
theorem qp{f C:Addr}{fd:Ie}(F:cY K "part_rows" "TurnRule.part_rows" dr f fd)(nb:NB mg)(cl:kS K C)(na:aq K C "cost"/\aq K C "part"/\aq K C "turning"):aZ P w K mg base bF 1 f fd ["self","rows","columns","cost"] (da C 3):=by
 have sc:=rp;walk_at "f"
 ·obtain⟨a,dx,lp,v,r,c,k,rfl,_⟩:=h;rfl
 ·obtain⟨a,dx,lp,v,r,c,k,rfl,ha,r1,r6,c1,c6,k16,k1,vc,vc9,vt,q⟩:=h
  have hu:=hr.units;refine⟨_,(ae (aB (i:=4) sc.nd rfl (Or.inl rfl) (iO (aE cI (ar (aW.m1 aQ) (aV (al 0) rfl) ah) ah (aI _)) (aY (aa (al 2) (aa (al 1) ad))) (aY (aa (al 1) (aa (al 2) ad)))))
   (ai (aG (bq (aa (bq (aa (ar il (ar il (aY (aa (aV (al 0) rfl) ad)) (al 4)) (aY (aa (ar (aW.m0 dc) (al 3) (aV (al 0) rfl)) ad))) ad)) ad))))),?_⟩
  walk_at "n";have key:∀(x y:Nat) (p:Addr) (H1:Hp),(∃p:TR,bP (3,v) r c k=[[p]]/\p=(v.o1,x,y,k-v.c))->az H H1->H1 p=some (.tup [V.int (x:Int),V.int (y:Int)])->N1 [some (V.ref a),some (V.int (r:Int)),some (V.int (c:Int)),some (V.int k),some (V.ref p)] H1:=by
   rintro x y p H1 ⟨_,ep,rfl⟩ s1 e1;refine h1 _ _ ?_;walk_at "wp";refine⟨C,dx,_,s1 _ _ ha,cl,na.2.1,_,rfl,am nofun,λp1 hp1=>?_⟩;have t1:=af (o:=.tup [V.str (tx v.o1)]) hp1;refine jI ac (t1 _ _ e1) (by simp) (by simp) (by simp) λp2 hp2=>?_;have t2:=t1.trans (af (o:=.tup ([V.str (tx v.o1)]++[V.int (x:Int),V.int (y:Int)])) hp2);have e2:au (au H1 p1 (.tup [V.str (tx v.o1)])) p2 (.tup ([V.str (tx v.o1)]++[V.int (x:Int),V.int (y:Int)])) p2=some (.tup [V.str (tx v.o1),V.int (x:Int),V.int (y:Int)]):=ac;generalize au (au H1 p1 (.tup [V.str (tx v.o1)])) p2 (.tup ([V.str (tx v.o1)]++[V.int (x:Int),V.int (y:Int)]))=A2 at t2 e2 ⊢;refine⟨C,dx,_,(s1.trans t2) _ _ ha,cl,na.1,_,rfl,_,rfl,am nofun,λp3 hp3=>?_⟩;have t3:=af (o:=.tup [V.int (k-v.c)]) hp3;refine jI (t3 _ _ e2) ac (by simp) (by simp) (by simp) λp4 hp4=>?_;have t4:=(t2.trans t3).trans (af (o:=.tup ([V.str (tx v.o1),V.int (x:Int),V.int (y:Int)]++[V.int (k-v.c)])) hp4);have e4:au (au A2 p3 (.tup [V.int (k-v.c)])) p4 (.tup ([V.str (tx v.o1),V.int (x:Int),V.int (y:Int)]++[V.int (k-v.c)])) p4=some (.tup (oX (v.o1,x,y,k-v.c))):=ac;generalize au (au A2 p3 (.tup [V.int (k-v.c)])) p4 (.tup ([V.str (tx v.o1),V.int (x:Int),V.int (y:Int)]++[V.int (k-v.c)]))=A4 at t4 e4 ⊢;refine⟨am nofun,λp5 hp5=>⟨am nofun,λp6 hp6=>?_⟩⟩;have t5:=af (o:=.lst [V.ref p4]) hp5;have t6:=af (o:=.lst [V.ref p5]) hp6;have ne:p5≠p6:=λe=>by rw[<- e,ac]at hp6;cases hp6
   have s4:=s1.trans t4;rw[ep]at q;refine q p6 _ (s4.free (t5.free hp6)) (dU.one ac ⟨[p4],t6 _ _ ac,rfl,λi b z x1 x2=>?_⟩ (s4.free hp5) ne) ((s4.trans t5).trans t6)
   match i,x1,x2 with
   |0,x1,x2=>cases x1;cases x2;exact(t5.trans t6) _ _ e4
  refine⟨C,dx,_,ha,cl,na.2.2,_,rfl,_,rfl,?_⟩
  by_cases ht:v.t%2=1
  ·rw[if_pos ht]
   exact⟨am nofun,λp hp=>key c r p _ ⟨_,rfl,by simp[ht]⟩ (af hp) ac⟩
  ·rw[if_neg ht]
   exact⟨am nofun,λp hp=>key r c p _ ⟨_,rfl,by simp[ht]⟩ (af hp) ac⟩
noncomputable def kZ(R:RC):List (Addr×Sp):=[(R.cc,da R.cc 0),(R.cb,da R.cb 1),(R.ca,da R.ca 2),(R.ct,da R.ct 3)]
theorem yC{R:RC}{H:Hp}{t a}{v:RV}{r c:Nat}{k:Int}{Q:VK}{E:XK}(h4:t<4)(ra:cL R H t a v)(r1:1<=r)(r6:r<=6)(c1:1<=c)(c6:c<=6)(k16:k<=16)(k1:1<=k)(vc:1<=v.c)(vc9:v.c<=9)(vt:0<=v.t)(q:∀l H',H l=none->dU H H' l (bP (t,v) r c k)->az H H'->Q (.ref l) H') :
  ∃o∈kZ R,∃dx fs,H a=some (.ins o.1 dx fs)/\fs.lookup ("part_rows":Str)=none/\o.2 [.ref a,.int (r:Int),.int (c:Int),.int k] H Q E:=by
 obtain⟨dx,l,h1,_⟩:=ra;have:t=0\/t=1\/t=2\/t=3:=by omega
 rcases this with rfl | rfl | rfl | rfl
 ·exact⟨(R.cc,da R.cc 0),by simp[kZ],dx,_,h1,rfl,a,dx,l,v,r,c,k,rfl,h1,r1,r6,c1,c6,k16,k1,vc,vc9,vt,q⟩
 ·exact⟨(R.cb,da R.cb 1),by simp[kZ],dx,_,h1,rfl,a,dx,l,v,r,c,k,rfl,h1,r1,r6,c1,c6,k16,k1,vc,vc9,vt,q⟩
 ·exact⟨(R.ca,da R.ca 2),by simp[kZ],dx,_,h1,rfl,a,dx,l,v,r,c,k,rfl,h1,r1,r6,c1,c6,k16,k1,vc,vc9,vt,q⟩
 ·exact⟨(R.ct,da R.ct 3),by simp[kZ],dx,_,h1,rfl,a,dx,l,v,r,c,k,rfl,h1,r1,r6,c1,c6,k16,k1,vc,vc9,vt,q⟩
inductive Gr(rs:Yaa):Dt->List Nat->bz->Int->Nat->Prop
 |cell {n:Nat} {v:RV}:rs[n]?=some (0,v)->Gr rs (.tup [.int (n:Int)]) v.n [v.sg] v.c 1
 |turn {n:Nat} {v:RV} {d:Dt} {p:bz} {c:Int} {k:Nat}:rs[n]?=some (3,v)->Gr rs d v.o1 p c k->Gr rs (.tup [.int (n:Int),d]) v.n (turned p v.t.toNat) (v.c+c) (k+1)
 |pair {n kd:Nat} {v:RV} {d1 d2:Dt} {p1 p2 p:bz} {c1 c2:Int} {k1 k2:Nat}:(kd=1\/kd=2)->rs[n]?=some (kd,v)->Gr rs d1 v.o1 p1 c1 k1->Gr rs d2 v.o2 p2 c2 k2->fS kd v [p1,p2]=some p->Gr rs (.tup [.int (n:Int),d1,d2]) v.n p (v.c+(c1+c2)) (max k1 k2+1)
theorem zR{k:Nat}{v:RV}{p1 p2 p:bz}{r c r' c':Nat}(hk:k=1\/k=2)(h1:fk p1 r c)(h2:fk p2 r' c')(m:fS k v [p1,p2]=some p):∃r c,fk p r c:=by
 have e1:=bT h1.rc h1.r0;have e2:=bT h2.rc h2.r0;have l1:=h1.rc.1;have l2:=h2.rc.1;rcases hk with rfl | rfl
 ·have m':(if p1.length=p2.length/\(p1.headD []).length+(p2.headD []).length<=6 then some (put2 p1 p2) else none)=some p:=m
  by_cases c0:p1.length=p2.length/\(p1.headD []).length+(p2.headD []).length<=6
  ·rw[if_pos c0]at m'
   cases m';rw[l1,l2,e1,e2]at c0;refine⟨r,c+c',⟨?_,h1.r0,h1.r6,by have:=h1.c0;omega,c0.2⟩⟩;refine⟨by unfold put2;rw[G7,List.length_zip,l1,l2];omega,λx hx=>?_⟩;unfold put2 at hx;obtain⟨y,hy,rfl⟩:=HJ.mp hx;have:=List.of_mem_zip hy;rw[Hq,h1.rc.2 _ this.1,h2.rc.2 _ this.2]
  ·rw[if_neg c0]at m';cases m'
 ·have m':(if(p1.headD []).length=(p2.headD []).length/\p1.length+p2.length<=6 then some (p1++p2) else none)=some p:=m
  by_cases c0:(p1.headD []).length=(p2.headD []).length/\p1.length+p2.length<=6
  ·rw[if_pos c0]at m'
   cases m';rw[l1,l2,e1,e2]at c0;refine⟨r+r',c,⟨⟨by rw[Hq,l1,l2],λx hx=>?_⟩,by have:=h1.r0;omega,c0.2,h1.c0,h1.c6⟩⟩;rcases Hg.mp hx with h | h
   ·exact h1.rc.2 _ h
   ·rw[c0.1];exact h2.rc.2 _ h
  ·rw[if_neg c0]at m';cases m'
theorem xH{p:bz}{r c:Nat}(h:fk p r c)(t:Nat):∃r c,fk (turned p t) r c:=by
 have hm:e_ (if 4<=t then jh p else p) r c:=by split;exact ja h.rc;exact h.rc
 have:=c5 (t%4) hm h.r0 h.c0;unfold turned
 by_cases e:t%4%2=0
 ·rw[if_pos e,if_pos e]at this;exact⟨r,c,this,h.r0,h.r6,h.c0,h.c6⟩
 ·rw[if_neg e,if_neg e]at this;exact⟨c,r,this,h.c0,h.c6,h.r0,h.r6⟩
theorem y_{H:Hp}{l lp:Addr}{as:Ib}{p:bz}(h1:H l=some (.lst (as.map V.ref)))(h2:H lp=some (.lst (aH p)))(h3:p≠[]):lp≠l:=λe=>by
 rw[e,h1]at h2;have h4:=HO.lst.inj (Option.some.inj h2);cases p with
 |nil=>exact h3 rfl
 |cons r p=>
  cases as with
  |nil=>exact nomatch h4
  |cons a as=>have:=(List.cons.inj h4).1;cases this
theorem kW{H H':Hp}{a:Addr}(s:az H H')(h:H' a=none):H a=none:=by
 cases e:H a with
 |none=>rfl
 |some o=>rw[s _ _ e]at h;cases h
theorem xG{H:Hp}{a b:Addr}{xs ys:List V}{Q:VK}(ha:H a=some (.tup xs))(hb:H b=some (.tup ys))(hx:xs≠[])(hz:xs.length+ys.length<=1000)(q:∀p H',H' p=some (.tup (xs++ys))->az H H'->Q (.ref p) H'):zy K (.ref a) (.ref b) H Q:=
 ⟨a,b,xs,ys,rfl,rfl,bx.of ha,bx.of hb,hx,am ⋯,λe=>q a H (by rw[e,HB];exact ha) (az.refl _),λ_ p hp=>q p _ ac (af hp)⟩
theorem cC{c:Prop}[Decidable c]{A B:Prop}(hA:c->A)(hB:¬ c->B):if c then A else B:=by
 by_cases h:c
 ·rw[if_pos h];exact hA h
 ·rw[if_neg h];exact hB h
inductive bI where
 |n0:Int->bI
 |n1:Int->bI->bI
 |n2:Int->bI->bI->bI
noncomputable def bI.i:bI->Int
 | .n0 i=>i
 | .n1 i _=>i
 | .n2 i _ _=>i
noncomputable def bI.ps:bI->List bI
 | .n0 _=>[]
 | .n1 _ a=>[a]
 | .n2 _ a b=>[a,b]
noncomputable def bI.d:bI->Dt
 | .n0 i=>.tup [.int i]
 | .n1 i a=>.tup [.int i,a.d]
 | .n2 i a b=>.tup [.int i,a.d,b.d]
noncomputable def bI.cnt:bI->Nat
 | .n0 _=>1
 | .n1 _ a=>a.cnt+1
 | .n2 _ a b=>a.cnt+b.cnt+1
noncomputable def bI.dep:bI->Nat
 | .n0 _=>1
 | .n1 _ a=>a.dep+1
 | .n2 _ a b=>max a.dep b.dep+1
theorem bI.d_eq(t:bI):t.d=.tup (.int t.i::t.ps.map bI.d):=by cases t<;>rfl
theorem bI.val{H:Hp}{v:V}{t:bI}(h:cO H t.d v):∃a vs,v=.ref a/\H a=some (.tup (.int t.i::vs))/\bC H (t.ps.map bI.d) vs:=by
 rw[t.d_eq]at h;unfold cO at h;obtain⟨a,xs,rfl,hta,hts⟩:=h;obtain⟨x0,ys,rfl,hx0,htr⟩:=hts.uncons;unfold cO at hx0;subst hx0;exact⟨a,ys,rfl,hta,htr⟩
theorem bI.of{H:Hp}{a:Addr}{vs:List V}{t:bI}(h:H a=some (.tup (.int t.i::vs)))(k:bC H (t.ps.map bI.d) vs):cO H t.d (.ref a):=by
 rw[t.d_eq];exact cO.node h k
theorem bI.lt{s t:bI}(h:s∈t.ps):s.dep<t.dep/\s.cnt<t.cnt:=by
 cases t with
 |n0 i=>exact nomatch h
 |n1 i a=>rw[G8.mp h];simp only[bI.dep,bI.cnt];omega
 |n2 i a b=>
  rcases Hi.mp h with rfl | h
  ·simp only[bI.dep,bI.cnt];omega
  ·rw[G8.mp h];simp only[bI.dep,bI.cnt];omega
theorem bI.cnt1(t:bI):1<=t.cnt:=by cases t<;>simp[bI.cnt]
theorem bI.dep1(t:bI):1<=t.dep:=by cases t<;>simp[bI.dep]
noncomputable def zV(i:Int):List bI->bI
 | []=>.n0 i
 | [a]=>.n1 i a
 |a::b::_=>.n2 i a b
theorem DB(i:Int)(ds:List bI):(zV i ds).i=i:=by
 match ds with
 | []=>rfl
 | [a]=>rfl
 |a::b::_=>rfl
theorem CY(i:Int){ds:List bI}(h:ds.length<=2):(zV i ds).ps=ds:=by
 match ds,h with
 | [],_=>rfl
 | [a],_=>rfl
 | [a,b],_=>rfl
 |a::b::c::_,h=>simp at h
theorem BH(t:bI):zV t.i t.ps=t:=by cases t<;>rfl
noncomputable def Sub:List Nat->bI->Option bI
 | [],t=>some t
 |k::pl,t=>match t.ps[k]? with
  |some s=>Sub pl s
  |none=>none
theorem Av{α:Type}(x:α)(xs:List α):dY (x::xs) 0=some x:=show dY (x::xs) ((0:Nat):Int)=some x from br rfl
theorem jC{z:Str}{rs:Yaa}{n:Nat}(h:n∈bM z rs):∃q,rs[n]?=some q/\tx q.2.n=z:=by
 unfold bM at h;obtain⟨x,hx,e⟩:=List.mem_filterMap.mp h
 split at e
 ·rename_i hz
  cases e;exact⟨x.1,List.mem_zipIdx_iff_getElem?.mp hx,hz⟩
 ·cases e
theorem rq(S:Nat×RV->Nat)(z:HY):∀(n:Nat) (rs:Yaa),rs.length=n->((bM (tx z) rs).map λi=>(rs[i]?.map S).getD 0).sum=((cj z rs).map S).sum
 |0,rs,h=>by rw[HI.mp h];rfl
 |n+1,rs,h=>by
  obtain⟨rs',r,rfl⟩:∃rs' r,rs=rs'++[r]:=⟨rs.dropLast,rs.getLast (by intro e;rw[e]at h;cases h),(List.dropLast_concat_getLast _).symm⟩;have hl:rs'.length=n:=by rw[Hq,List.length_singleton]at h;omega
  have ih:=rq S z n rs' hl;rw[nI,Hf,List.sum_append];have e1:(bM (tx z) rs').map (λi=>((rs'++[r])[i]?.map S).getD 0)=(bM (tx z) rs').map λi=>(rs'[i]?.map S).getD 0:=List.map_congr_left λi hi=>by
   obtain⟨q,hq,_⟩:=jC hi;rw[Ho (G5.mp hq).1]
  rw[e1,ih];unfold cj;rw[List.filter_append,Hf,List.sum_append]
  congr 1
  by_cases hz:r.2.n=z
  ·rw[if_pos (by rw[hz])]
   simp[hz]
  ·rw[if_neg (λe=>hz (gE e))]
   simp[hz]
theorem uG{q:Nat×RV}{r c:Nat}{k:Int}(h4:q.1<4)(hq:1<=q.2.c)(hr:1<=r)(hc:1<=c)(hr6:r<=6)(hc6:c<=6)(hk:k<=16):(bP q r c k).length<=75:=by
 obtain⟨t,v⟩:=q;have:t=0\/t=1\/t=2\/t=3:=by simp at h4;omega
 simp only at hq;rcases this with rfl | rfl | rfl | rfl
 ·show(if r=1/\c=1/\k=v.c then[[]] else[]).length<=75
  split<;>simp
 ·refine Hy (eO (by show k-v.c<=15;omega) _ λz hz=>jx hr hz) ?_
  rw[io];omega
 ·refine Hy (eO (by show k-v.c<=15;omega) _ λz hz=>jF hc hz) ?_
  rw[ik];omega
 ·show([[_]]:List (List TR)).length<=75
  simp
theorem mD{z:Str}:∀{m:List (Str×List Nat)},z∉m.map (·.1)->m.lookup z=none
 | [],_=>rfl
 |p::m,h=>by
  rw[Hx,Hi]at h;have h1:(z==p.1)=false:=beq_eq_false_iff_ne.mpr λe=>h (.inl e);rw[List.lookup_cons,h1];exact mD λq=>h (.inr q)
theorem A_{R:RC}{H:Hp}{t:Nat}{a b:Addr}{v:RV}{p:TR}{Q:VK}{E:XK}(hb:H b=some (.tup (oX p)))(h4:t<4)(ra:cL R H t a v)(r1:1<=p.2.1)(r6:p.2.1<=6)(c1:1<=p.2.2.1)(c6:p.2.2.1<=6)(k16:p.2.2.2<=16)(k1:1<=p.2.2.2)(vc:1<=v.c)(vc9:v.c<=9)(vt:0<=v.t)(q:∀l H',H l=none->dU H H' l (bP (t,v) p.2.1 p.2.2.1 p.2.2.2)->az H H'->Q (.ref l) H') :
  ∃o,o∈kZ R/\∃a_1,V.ref a=V.ref a_1/\∃dx fs,H a_1=some (.ins o.1 dx fs)/\fs.lookup (Str.ofString "part_rows")=none/\∃xs,bx K H b xs/\∃v1,dY xs 1=some v1/\∃xs,bx K H b xs/\∃v2,dY xs 2=some v2/\∃xs,bx K H b xs/\∃v3,dY xs 3=some v3/\o.2 [.ref a,v1,v2,v3] H Q E:=by
 obtain⟨o,ho,dx,fs,e1,e2,e3⟩:=yC (E:=E) h4 ra r1 r6 c1 c6 k16 k1 vc vc9 vt q;exact⟨o,ho,a,rfl,dx,fs,e1,e2,_,bx.of hb,_,rfl,_,bx.of hb,_,rfl,_,bx.of hb,_,rfl,e3⟩
noncomputable abbrev Di:=Nat×List TR×Nat
noncomputable def lK(rs:Yaa)(p:TR)(i:Nat):List Di:=match rs[i]? with
 |some q=>(bP q p.2.1 p.2.2.1 p.2.2.2).filterMap λps=>if 0<aM (CN rs) ps then some (i,ps,aM (CN rs) ps) else none
 |none=>[]
noncomputable def dF(rs:Yaa)(p:TR):List Di:=if p.2.2.2<fw p.2.1 p.2.2.1 then[] else(bM (tx p.1) rs).flatMap (lK rs p)
noncomputable def eD(F:TR->List bI):List TR->List (List bI)
 | []=>[[]]
 |p::ps=>(F p).flatMap λt=>(eD F ps).map (t :: ·)
noncomputable def Dc(rs:Yaa):Nat->TR->List bI
 |0,_=>[]
 |f+1,p=>(dF rs p).flatMap λs=>(eD (Dc rs f) s.2.1).map (zV (s.1:Int))
noncomputable abbrev RT(rs:Yaa)(p:TR):List bI:=Dc rs 17 p
structure jt(p:TR):Prop where
 r1:1<=p.2.1
 r6:p.2.1<=6
 c1:1<=p.2.2.1
 c6:p.2.2.1<=6
 k16:p.2.2.2<=16
theorem nw{rs:Yaa}{p:TR}{s:Di}(h:s∈dF rs p):∃q,rs[s.1]?=some q/\q.2.n=p.1/\s.2.1∈bP q p.2.1 p.2.2.1 p.2.2.2/\s.2.2=aM (CN rs) s.2.1/\0<s.2.2/\fw p.2.1 p.2.2.1<=p.2.2.2:=by
 unfold dF at h
 split at h
 ·cases h
 ·rename_i hk
  obtain⟨i,hi,h⟩:=List.mem_flatMap.mp h;obtain⟨q,hq,hn⟩:=jC hi;unfold lK at h;rw[hq]at h;obtain⟨ps,hps,e⟩:=List.mem_filterMap.mp h
  split at e
  ·rename_i h0
   cases e;exact⟨q,hq,gE hn,hps,rfl,h0,⋯⟩
  ·cases e
theorem pA{rs:Yaa}(hg:fz rs){p p':TR}{s:Di}(ok:jt p)(h:s∈dF rs p)(hp:p'∈s.2.1):jt p'/\p'.2.2.2<p.2.2.2:=by
 obtain⟨q,hq,_,hps,_,_,hk⟩:=nw h;obtain⟨h4,hc,_⟩:=hg q (G_ hq);have po:=lz h4 hc ok.r1 ok.c1 hps hp;have:=ok.r6;have:=ok.c6;have:=ok.k16;have:=po.rm;have:=po.cm;exact⟨⟨po.r1,⋯,po.c1,⋯,by have:=po.lt;omega⟩,po.lt⟩
theorem mz{F G:TR->List bI}:∀{ps:List TR},(∀p∈ps,F p=G p)->eD F ps=eD G ps
 | [],_=>rfl
 |p::ps,h=>by
  unfold eD;rw[h p List.mem_cons_self,mz λp' hp'=>h p' (Hj _ hp')]
theorem jf{α β:Type}{f g:α->List β}:∀{l:List α},(∀x∈l,f x=g x)->l.flatMap f=l.flatMap g
 | [],_=>rfl
 |x::l,h=>by rw[List.flatMap_cons,List.flatMap_cons,h x List.mem_cons_self,jf λy hy=>h y (Hj _ hy)]
theorem xK{rs:Yaa}{p:TR}(ok:jt p)(h:p.2.2.2<1):dF rs p=[]:=by
 unfold dF;rw[if_pos (by have:=ck ok.r1 ok.c1;omega)]
theorem qk{rs:Yaa}{p:TR}(ok:jt p)(h:p.2.2.2<1)(f:Nat):Dc rs f p=[]:=by
 cases f with
 |zero=>rfl
 |succ f=>unfold Dc;rw[xK ok h];rfl
theorem ug{rs:Yaa}(hg:fz rs):∀(f:Nat) (p:TR),jt p->p.2.2.2<(f:Int)+1->Dc rs (f+1) p=Dc rs f p
 |0,p,ok,h=>by rw[qk ok (by simpa using h),qk ok (by simpa using h)]
 |f+1,p,ok,h=>by
  show(dF rs p).flatMap _=(dF rs p).flatMap _;refine jf λs hs=>?_;rw[mz λp' hp'=>?_];obtain⟨ok',lt⟩:=pA hg ok hs hp';exact ug hg f p' ok' (by push_cast at h;omega)
theorem wn{rs:Yaa}(hg:fz rs){p:TR}(ok:jt p):RT rs p=(dF rs p).flatMap λs=>(eD (RT rs) s.2.1).map (zV (s.1:Int)):=by
 have:=(ug hg 17 p ok (by have:=ok.k16;push_cast;omega)).symm;exact this
theorem s_{α β:Type}{f:α->List β}{n:Nat}:∀{l:List α},(∀x,(f x).length=n)->(l.flatMap f).length=l.length*n
 | [],_=>by simp
 |x::l,h=>by rw[List.flatMap_cons,Hq,h x,s_ (l:=l) h,He,Nat.add_mul];omega
theorem u7{rs:Yaa}{i:Nat}:∀pss:List (List TR),((pss.filterMap λps=>if 0<aM (CN rs) ps then some ((i,ps,aM (CN rs) ps):Di) else none).map λs=>s.2.2).sum=(pss.map λps=>aM (CN rs) ps).sum
 | []=>rfl
 |ps::pss=>by
  rw[List.filterMap_cons,Hx,List.sum_cons]
  by_cases h0:0<aM (CN rs) ps
  ·rw[if_pos h0]
   show((_::_:List Di).map λs=>s.2.2).sum=_;rw[Hx,List.sum_cons,u7 pss]
  ·rw[if_neg h0]
   show(List.map _ _).sum=_;rw[u7 pss];omega
theorem qg{F:TR->List bI}{g:TR->Nat}:∀{ps:List TR},(∀p∈ps,(F p).length=g p)->(eD F ps).length=aM g ps:=by
 have key:∀{ps:List TR} (m:Nat),(∀p∈ps,(F p).length=g p)->ps.foldl (λm p=>m*g p) m=m*(eD F ps).length:=by
  intro ps
  induction ps with
  |nil=>intro m _;unfold eD;simp
  |cons p ps ih=>
   intro m h;rw[List.foldl_cons,ih _ λp' hp'=>h p' (Hj _ hp')];have:(eD F (p::ps)).length=(F p).length*(eD F ps).length:=by
    show((F p).flatMap λt=>(eD F ps).map (t :: ·)).length=_;rw[s_ (n:=(eD F ps).length) λt=>by rw[G7]]
   rw[this,h p List.mem_cons_self,Nat.mul_assoc]
 intro ps h;unfold aM;rw[key 1 h,Nat.one_mul]
theorem og{α β:Type}(f:α->List β):∀l:List α,(l.flatMap f).length=(l.map λx=>(f x).length).sum
 | []=>rfl
 |x::l=>by rw[List.flatMap_cons,Hq,og f l,Hx,List.sum_cons]
theorem xy{rs:Yaa}(hg:fz rs){p:TR}(ok:jt p):((dF rs p).map λs=>s.2.2).sum=CN rs p:=by
 unfold dF
 by_cases hk:p.2.2.2<fw p.2.1 p.2.2.1
 ·rw[if_pos hk,vO hk];rfl
 rw[if_neg hk];have:=ok.r1;have:=ok.r6;have:=ok.c1;have:=ok.c6;rw[wj hg ok.k16,if_neg ⋯,<- rq (λq=>((bP q p.2.1 p.2.2.1 p.2.2.2).map λps=>aM (CN rs) ps).sum) p.1 _ rs rfl,i9]
 congr 1
 refine List.map_congr_left λi hi=>?_;obtain⟨q,hq,_⟩:=jC hi;rw[hq];show((lK rs p i).map λs=>s.2.2).sum=((bP q p.2.1 p.2.2.1 p.2.2.2).map λps=>aM (CN rs) ps).sum;have e:lK rs p i=(bP q p.2.1 p.2.2.1 p.2.2.2).filterMap λps=>if 0<aM (CN rs) ps then some (i,ps,aM (CN rs) ps) else none:=by unfold lK;rw[hq]
 rw[e,u7]
theorem zF{rs:Yaa}(hg:fz rs):∀(f:Nat) (p:TR),jt p->p.2.2.2<(f:Int)->(RT rs p).length=CN rs p
 |0,p,ok,h=>by
  show(Dc rs 17 p).length=_;rw[qk ok (by simp at h;omega),vO (by have:=ck ok.r1 ok.c1;simp at h;omega)];rfl
 |f+1,p,ok,h=>by
  rw[wn hg ok,og,<- xy hg ok]
  congr 1
  refine List.map_congr_left λs hs=>?_;obtain⟨q,hq,_,hps,e,_⟩:=nw hs;rw[G7,qg (g:=CN rs) λp' hp'=>?_,e];obtain⟨ok',lt⟩:=pA hg ok hs hp';exact zF hg f p' ok' (by push_cast at h;omega)
theorem lZ{rs:Yaa}(hg:fz rs){p:TR}(ok:jt p):(RT rs p).length=CN rs p:=zF hg 17 p ok (by have:=ok.k16;push_cast;omega)
noncomputable def DT(g d1 d2:Addr):List (Str×V):=[("grammar",.ref g),("steps",.ref d1),("totals",.ref d2)]
structure wJ(st:HY)(rs:Yaa)(m:Nat)(p:TR):Prop where
 nm:tx p.1∈(bd (tx st) rs).map (·.1)
 r1:1<=p.2.1
 rm:p.2.1<=m
 c1:1<=p.2.2.1
 cm:p.2.2.1<=m
 k0:-8<=p.2.2.2
 k16:p.2.2.2<=16
theorem lm{α:Type}[DecidableEq α]:∀{l L:List α},l.Nodup->(∀x∈l,x∈L)->l.length<=L.length
 | [],_,_,_=>Hs _
 |x::l,L,hn,hs=>by
  have hx:x∈L:=hs x List.mem_cons_self;rw[List.nodup_cons]at hn;have:=lm (l:=l) (L:=L.erase x) hn.2 λy hy=>(List.mem_erase_of_ne λe=>hn.1 (by rw[<- e];exact hy)).mpr (hs y (Hj _ hy));rw[List.length_erase_of_mem hx]at this;have:=List.length_pos_of_mem hx;rw[He];omega
theorem fV{α β:Type}{f:α->List β}{n:Nat}:∀{l:List α},(∀x,(f x).length=n)->(l.flatMap f).length=l.length*n
 | [],_=>by simp
 |x::l,h=>by rw[List.flatMap_cons,Hq,h x,fV (l:=l) h,He,Nat.add_mul];omega
noncomputable def yq(zs:Ih):List (List cE):=zs.flatMap λz=>(List.range 7).flatMap fun(r:Nat)=>(List.range 7).flatMap fun(c:Nat)=>(List.range 25).map fun(j:Nat)=>[.inr z,.inl (r:Int),.inl (c:Int),.inl ((j:Int)-8)]
theorem zn(zs:Ih):(yq zs).length=zs.length*(7*(7*25)):=
 fV λz=>(fV λr=>(fV λc=>by rw[G7,List.length_range]).trans (by rw[List.length_range])).trans (by rw[List.length_range])
theorem yY{st:HY}{rs:Yaa}{m:Nat}{p:TR}(d:wJ st rs m p)(h6:m<=6):dw p∈yq ((bd (tx st) rs).map (·.1)):=by
 have:=d.rm;have:=d.cm;have:=d.k0;have:=d.k16;refine List.mem_flatMap.mpr ⟨_,d.nm,List.mem_flatMap.mpr ⟨p.2.1,List.mem_range.mpr ⋯,List.mem_flatMap.mpr ⟨p.2.2.1,List.mem_range.mpr ⋯,HJ.mpr ⟨(p.2.2.2+8).toNat,List.mem_range.mpr ⋯,?_⟩⟩⟩⟩;unfold dw;rw[show(((p.2.2.2+8).toNat:Int)-8)=p.2.2.2 by omega]
structure oO(st:HY)(rs:Yaa)(m:Nat)(m1 m2:List (List cE×V)):Prop where
 n1:(m1.map (·.1)).Nodup
 n2:(m2.map (·.1)).Nodup
 k1:∀k∈m1.map (·.1),k∈yq ((bd (tx st) rs).map (·.1))
 k2:∀k∈m2.map (·.1),k∈yq ((bd (tx st) rs).map (·.1))
 ok:∀p:TR,(bO m1 (dw p)).isSome=true->bO m2 (dw p)=some (.int (CN rs p:Nat))
theorem oO.len{st:HY}{rs:Yaa}{m:Nat}{m1 m2:List (List cE×V)}(h:oO st rs m m1 m2)(hz:(bd (tx st) rs).length<=100):m1.length<sizeLine/\m2.length<sizeLine:=by
 have h1:=lm h.n1 h.k1;have h2:=lm h.n2 h.k2;rw[zn,G7,G7]at h1 h2;exact⟨bb ⋯,bb ⋯⟩
structure lN(R:RC)(CG CT:Addr)(H:Hp)(a dx g dg d1 d2:Addr)(sg st:HY)(as:Ib)(rs:Yaa)(m:Nat):Prop where
 at_:H a=some (.ins CT dx (DT g d1 d2))
 ne:d1≠d2
 gr:dX R H CG dg g sg st as rs
 gc:fz rs
 gt:∀q∈rs,0<=q.2.t
 sm:∀p:TR,p.2.1<=m->p.2.2.1<=m->p.2.2.2<=7->CN rs p<2 ^ 64
 m6:m<=6
 n24:rs.length<=24
 nz:(bd (tx st) rs).length<=100
 mm:∃m1 m2,H d1=some (.dT m1)/\H d2=some (.dT m2)/\oO st rs m m1 m2
section
variable {R:RC}{CG CT:Addr}{H H':Hp}{a dx g dg d1 d2:Addr}{sg st:HY}{as:Ib}{rs:Yaa}{m:Nat}
theorem lN.kp(e:lN R CG CT H a dx g dg d1 d2 sg st as rs m)(s:cW d1 d2 H H'):Kp H H':=λx o ho hx=>by
 obtain⟨m1,m2,h1,h2,_⟩:=e.mm;refine s x o (λz=>?_) (λz=>?_) hx
 ·rw[z,h1]at hx;cases hx;exact ho trivial
 ·rw[z,h2]at hx;cases hx;exact ho trivial
theorem lN.next(e:lN R CG CT H a dx g dg d1 d2 sg st as rs m)(s:cW d1 d2 H H')(mm:∃m1 m2,H' d1=some (.dT m1)/\H' d2=some (.dT m2)/\oO st rs m m1 m2):lN R CG CT H' a dx g dg d1 d2 sg st as rs m:=
 ⟨(e.kp s).ins e.at_,e.ne,e.gr.kp (e.kp s),e.gc,e.gt,e.sm,e.m6,e.n24,e.nz,mm⟩
theorem lN.up(e:lN R CG CT H a dx g dg d1 d2 sg st as rs m)(s:az H H'):lN R CG CT H' a dx g dg d1 d2 sg st as rs m:=by
 obtain⟨m1,m2,h1,h2,h3⟩:=e.mm;exact e.next (.of s) ⟨m1,m2,s _ _ h1,s _ _ h2,h3⟩
end
theorem xw{st:HY}{rs:Yaa}{q:Nat×RV}(hq:q∈rs)(h4:q.1<4){z:HY}(hz:z∈bt q.1 q.2):tx z∈(bd (tx st) rs).map (·.1):=
 (oj _ _ _).mpr (.inr ⟨(tx q.2.n,(bt q.1 q.2).map tx),by unfold Cl;exact List.mem_map_of_mem (f:=λr:Nat×RV=>(tx r.2.n,(bt r.1 r.2).map tx)) hq,.inr (List.mem_map_of_mem hz)⟩)
theorem wJ.part{st:HY}{rs:Yaa}{m:Nat}{p p':TR}{q:Nat×RV}{ps:List TR}(d:wJ st rs m p)(gc:fz rs)(hq:q∈rs)(k1:1<=p.2.2.2)(h:ps∈bP q p.2.1 p.2.2.1 p.2.2.2)(hp:p'∈ps):wJ st rs m p'/\p'.2.2.2<p.2.2.2:=by
 obtain⟨h4,hc,hc9⟩:=gc q hq;have po:=lz h4 hc d.r1 d.c1 h hp;have:=d.rm;have:=d.cm;have:=d.k16;have:=po.rm;have:=po.cm;have lt:=po.lt;refine⟨⟨?_,po.r1,⋯,po.c1,⋯,?_,⋯⟩,lt⟩
 ·have mem:p'.1∈bt q.1 q.2:=by
   rcases fT h4 d.r1 d.c1 h with rfl | ⟨p2,rfl,e1,e2,e3⟩ | ⟨hk,z,f,sz,f1,f2,rfl⟩
   ·cases hp
   ·rw[G8.mp hp,e1]
    have:q.1=0\/q.1=1\/q.1=2\/q.1=3:=by omega
    rcases this with e | e | e | e
    ·exfalso
     unfold bP at h;rw[e]at h;simp only at h
     split at h
     ·simp at h
     ·simp at h
    ·rw[e];simp[bt]
    ·rw[e];simp[bt]
    ·rw[e];simp[bt]
   ·have hpk:bt q.1 q.2=[q.2.o1,q.2.o2]:=by rcases hk with e | e<;>rw[e]<;>rfl
    rw[hpk];rcases(show p'=_\/p'=_ by simpa using hp) with rfl | rfl<;>simp
  exact xw hq h4 mem
 ·rcases po.ge with h | h<;>omega
abbrev i8(st:HY)(rs:Yaa)(m:Nat)(H:Hp)(d1 d2:Addr):Prop:=∃m1 m2,H d1=some (.dT m1)/\H d2=some (.dT m2)/\oO st rs m m1 m2
def cq(H:Hp)(l:Addr)(ms:HY):Prop:=∃ts:List Addr,H l=some (.lst (ts.map V.ref))/\ts.length=ms.length/\∀(i:Nat) t x,ts[i]?=some t->ms[i]?=some x->∃u v,H t=some (.tup [u,v,.int (x:Nat)])
inductive bZ(R:RC)(CG CT CN_:Addr)(n:Nat)(vs:List V)(H:Hp)(Q:VK)(E:XK):Prop
 |mk (a dx g dg d1 d2 b:Addr) (sg st:HY) (as:Ib) (rs:Yaa) (m:Nat) (p:TR) (_:vs=[.ref a,.ref b]) (_:lN R CG CT H a dx g dg d1 d2 sg st as rs m) (_:H b=some (.tup (oX p))) (_:((wJ st rs m p/\0<n/\p.2.2.2<(n:Int)/\(∀H',cW d1 d2 H H'->i8 st rs m H' d1 d2->Q (.int (CN rs p:Nat)) H'))\/(0<n/\tx p.1∉(bd (tx st) rs).map (·.1)/\E (.ref CN_) none H)))
inductive fA(R:RC)(CG CT CN_:Addr)(n:Nat)(vs:List V)(H:Hp)(Q:VK)(E:XK):Prop
 |mk (a dx g dg d1 d2 b:Addr) (sg st:HY) (as:Ib) (rs:Yaa) (m:Nat) (p:TR) (_:vs=[.ref a,.ref b]) (_:lN R CG CT H a dx g dg d1 d2 sg st as rs m) (_:H b=some (.tup (oX p))) (_:((wJ st rs m p/\0<n/\p.2.2.2<(n:Int)/\(∀v H',cW d1 d2 H H'->i8 st rs m H' d1 d2->(∃m2,H' d2=some (.dT m2)/\bO m2 (dw p)=some (.int (CN rs p:Nat)))->Q v H'))\/(0<n/\tx p.1∉(bd (tx st) rs).map (·.1)/\E (.ref CN_) none H)))
inductive fq(R:RC)(CG CT CN_:Addr)(n:Nat)(vs:List V)(H:Hp)(Q:VK)(E:XK):Prop
 |mk (a dx g dg d1 d2 b:Addr) (sg st:HY) (as:Ib) (rs:Yaa) (m:Nat) (p:TR) (_:vs=[.ref a,.ref b]) (_:lN R CG CT H a dx g dg d1 d2 sg st as rs m) (_:H b=some (.tup (oX p))) (_:((wJ st rs m p/\0<n/\p.2.2.2<(n:Int)/\(∀l ms H',cW d1 d2 H H'->i8 st rs m H' d1 d2->cq H' l ms->ms.sum=CN rs p->ms.length<=100000->Q (.ref l) H'))\/(0<n/\tx p.1∉(bd (tx st) rs).map (·.1)/\E (.ref CN_) none H)))
inductive cX(R:RC)(CG CT:Addr)(n:Nat)(vs:List V)(H:Hp)(Q:VK)(_E:XK):Prop
 |mk (a dx g dg d1 d2 l:Addr) (sg st:HY) (as:Ib) (rs:Yaa) (m:Nat) (ps:List TR) (_:vs=[.ref a,.ref l]) (_:lN R CG CT H a dx g dg d1 d2 sg st as rs m) (_:sy H l ps) (_:(∀p∈ps,wJ st rs m p/\0<n/\p.2.2.2<(n:Int))) (_:ps.length<=2) (_:(∀p1 p2,ps=[p1,p2]->p1.2.2.2<=7\/p2.2.2.2<=7)) (_:∀H',cW d1 d2 H H'->i8 st rs m H' d1 d2->Q (.int (aM (CN rs) ps:Nat)) H')
theorem rW{c:TT}{t u:TS}{D:iJ}{σ:St}{H:Hp}(h:∀t' u',t'=t->u'=u->yS c t' u' D σ H):yS c t u D σ H:=h t u rfl rfl
noncomputable abbrev eY:Stmt:=eW 33 0
inductive km(K:W.Frag)(vs:List V)(H:Hp)(Q:VK)(_E:XK):Prop
 |mk (a C dx g:Addr) (_:vs=[.ref a,.ref g]) (_:H a=some (.ins C dx [])) (_:kS K C) (_:(aq K C "grammar"/\aq K C "steps"/\aq K C "totals")) (_:∀d1 d2 H',H d1=none->H d2=none->d1≠d2->H' a=some (.ins C dx (DT g d1 d2))->H' d1=some (.dT [])->H' d2=some (.dT [])->bA a H H'->Q .non H')
theorem vW:ay ["self","grammar"] ["self","grammar"] (ak eY):=by walk_at "c"
theorem vL{f:Addr}{fd:Ie}(F:cY K "__init__" "TreeRows.__init__" eY f fd)(nb:NB mg):aZ P w K mg base bF 1 f fd ["self","grammar"] (km K):=by
 have sc:=vW;walk_at "f"
 ·obtain⟨a,C,dx,g,rfl,_⟩:=h;rfl
 ·obtain⟨a,C,dx,g,rfl,ha,cl,⟨n1,n2,n3⟩,q⟩:=h
  refine⟨_,(ae (cM (al 0) (al 1) rfl)
   (ae (cM (al 0) tL rfl)
   (ai (cM (al 0) tL rfl)))),?_⟩
  walk_at "n";refine⟨C,dx,_,ha,cl,n1,by simp,h1 _ _ ?_⟩;clear h1;have sx2:bA a H (au H a (.ins C dx [("grammar",.ref g)])):=(bA.of (az.refl _)).put;have ea2:au H a (.ins C dx [("grammar",.ref g)]) a=some (.ins C dx [("grammar",.ref g)]):=ac;change vn _ _ _ _ (au H a (.ins C dx [("grammar",.ref g)]));generalize au H a (.ins C dx [("grammar",.ref g)])=H2 at sx2 ea2 ⊢;walk_at "n";intro d1 hd1;have hda:d1≠a:=λe=>by rw[e,ea2]at hd1;cases hd1
  have t1:¬ (("grammar":Str)="steps"):=by decide +kernel
  have e3:ce "steps" (V.ref d1) [(("grammar":Str),V.ref g)]=[(("grammar":Str),V.ref g),(("steps":Str),V.ref d1)]:=by simp only[ce,if_neg t1]
  refine⟨C,dx,_,af hd1 _ _ ea2,cl,n2,by simp,?_⟩;rw[e3];refine h1 _ _ ?_;clear h1;have f1:H d1=none:=by
   cases e:H d1 with
   |none=>rfl
   |some u=>rw[sx2 _ _ hda e]at hd1;cases hd1
  have sx3:bA a H (au (au H2 d1 (.dT [])) a (.ins C dx [("grammar",.ref g),("steps",.ref d1)])):=(sx2.then (af hd1)).put;have ea3:au (au H2 d1 (.dT [])) a (.ins C dx [("grammar",.ref g),("steps",.ref d1)]) a=some (.ins C dx [("grammar",.ref g),("steps",.ref d1)]):=ac;have ed3:au (au H2 d1 (.dT [])) a (.ins C dx [("grammar",.ref g),("steps",.ref d1)]) d1=some (.dT []):=by rw[ao hda,ac]
  generalize au (au H2 d1 (.dT [])) a (.ins C dx [("grammar",.ref g),("steps",.ref d1)])=H3 at sx3 ea3 ed3 ⊢;walk_at "wp";intro d2 hd2;have hda2:d2≠a:=λe=>by rw[e,ea3]at hd2;cases hd2
  have hdd:d1≠d2:=λe=>by rw[<- e,ed3]at hd2;cases hd2
  have t2:¬ (("grammar":Str)="totals"):=by decide +kernel
  have t3:¬ (("steps":Str)="totals"):=by decide +kernel
  have e4:ce "totals" (V.ref d2) [(("grammar":Str),V.ref g),(("steps":Str),V.ref d1)]=DT g d1 d2:=by unfold DT;simp only[ce,if_neg t2,if_neg t3]
  refine⟨C,dx,_,af hd2 _ _ ea3,cl,n3,by simp,?_⟩;rw[e4];have f2:H d2=none:=by
   cases e:H d2 with
   |none=>rfl
   |some u=>rw[sx3 _ _ hda2 e]at hd2;cases hd2
  exact q d1 d2 _ f1 f2 hdd ac (by rw[ao hda,ao hdd];exact ed3) (by rw[ao hda2,ac]) ((sx3.then (af hd2)).put)
theorem sM(f:TR->Nat)(ps:List TR)(p:TR):aM f (ps++[p])=aM f ps*f p:=by
 unfold aM;rw[List.foldl_append];rfl
noncomputable abbrev bp:Stmt:=eW 33 4
theorem j0:ay ["self","rows","many","row"] ["self","rows"] (ak bp):=by walk_at "c"
theorem jX{R:RC}{f CG CT CN_:Addr}{fd:Ie}{n:Nat}(F:cY K "many_together" "TreeRows.many_together" bp f fd)(nb:NB mg)(yap:eM P w K mg base (b7 P w) (4*n+4) CT "many_in" ["self","row"] (bZ R CG CT CN_ n)) :
  aZ P w K mg base (b7 P w) (4*n+5) f fd ["self","rows"] (cX R CG CT n):=by
 have sc:=j0;walk_at "x"
 ·obtain⟨a,dx,g,dg,d1,d2,l,sg,st,as,rs,m,ps,rfl,_⟩:=h;rfl
 ·obtain⟨a,dx,g,dg,d1,d2,l,sg,st,as,rs,m,ps,rfl,te,⟨bs,hl,hbl,hbs⟩,hd,h2,h7,q⟩:=h
  have hu:=hr.units;refine⟨_,(ae (aB (i:=2) sc.nd rfl (Or.inl rfl) ah)
   (ae (bD PassesOwn.leaving rfl (bX (al 1)) (av (i:=3) sc.nd rfl (Or.inl rfl))
   (ai (bj (aE (aW.m0 ju) (al 2) ah (aI _))
   (ai (aB (i:=2) sc.nd rfl (Or.inl rfl) (ar (aW.m1 dN) (al 2) (ig yap (hr.mono ⋯) (b_ λ_ _ _ h=>h) (al 0) (aa (al 3) ad)))))
   aJ)))
   (ai (aG (al 2))))),?_⟩
  walk_at "n";refine h1 _ _ ?_;walk_at "nc";refine⟨⟨_,aN.of hl⟩,?_⟩;refine cR (xs:=bs.map V.ref) (λi σ H'=>cW d1 d2 H H'/\i<=bs.length/\i8 st rs m H' d1 d2/\∃x,σ=[some (V.ref a),some (V.ref l),some (V.int (aM (CN rs) (ps.take i):Nat)),x]) ⟨λ_ _ _ _ e=>e,Hs _,te.mm,_,rfl⟩ (λi σ H' _ h=>aN.of ((te.kp h.1).lst hl)) ?_ ?_
  ·rintro i x σ H' hx ⟨sd,hi,mm,y,rfl⟩
   have hlt:i<bs.length:=by have:=(G5.mp hx).1;rwa [G7]at this
   rw[G9,G4 hlt]at hx;cases hx;have hpi:ps[i]?=some (ps[i]'⋯):=G4 ⋯;have hb:=hbs i bs[i] _ (G4 hlt) hpi;obtain⟨dp,n0,pn⟩:=hd _ (Hc (show i<ps.length by omega));have hsn:aM (CN rs) (ps.take (i+1))=aM (CN rs) (ps.take i)*CN rs (ps[i]'⋯):=by rw[List.take_add_one,hpi];exact sM _ _ _
   have te':=te.next sd mm;walk_at "wp"
   by_cases h0:0<aM (CN rs) (ps.take i)
   ·rw[if_pos ⋯]
    refine⟨dx,_,te'.at_,rfl,a,dx,g,dg,d1,d2,bs[i],sg,st,as,rs,m,_,rfl,te',(te.kp sd).tup hb,.inl ⟨dp,n0,pn,λH2 s2 mm2=>⟨_,rfl,?_,sd.trans s2,hlt,mm2,?_⟩⟩⟩
    ·have hi2:i=0\/i=1:=by omega
     rcases hi2 with rfl | rfl
     ·left;simp[aM]
     ·obtain⟨p1,p2,rfl⟩:∃p1 p2,ps=[p1,p2]:=by
       match ps,h2,(show 1<ps.length by omega) with
       | [p1,p2],_,_=>exact⟨p1,p2,rfl⟩
      have dp1:=(hd p1 List.mem_cons_self).1;rcases h7 p1 p2 rfl with h | h
      ·left
       have:=te.sm p1 dp1.rm dp1.cm h;have e1:aM (CN rs) (List.take 1 [p1,p2])=CN rs p1:=by show 1*CN rs p1=_;rw[Nat.one_mul]
       rw[e1];omega
      ·right
       have:CN rs p2<2 ^ 64:=te.sm p2 dp.rm dp.cm h;show _<((CN rs p2:Nat):Int)/\((CN rs p2:Nat):Int)<_;omega
    ·rw[hsn];push_cast;rfl
   ·rw[if_neg ⋯]
    refine⟨sd,hlt,mm,?_⟩;rw[hsn,show aM (CN rs) (ps.take i)=0 by omega,Nat.zero_mul]
  ·rintro σ H' ⟨sd,_,mm,y,rfl⟩
   refine h1 _ _ ?_;walk_at "wp";rw[G7,hbl,HE];exact q H' sd mm
theorem cq.kp{H H':Hp}{l:Addr}{ms:HY}(h:cq H l ms)(s:Kp H H'):cq H' l ms:=by
 obtain⟨ts,h1,h2,h3⟩:=h;refine⟨ts,s.lst h1,h2,λi t x e1 e2=>?_⟩;obtain⟨u,v,e⟩:=h3 i t x e1 e2;exact⟨u,v,s.tup e⟩
theorem cq.nil{H:Hp}{l:Addr}(h:H l=some (.lst [])):cq H l []:=⟨[],h,rfl,λi a ps e=>by simp at e⟩
theorem cq.app{H:Hp}{l t:Addr}{ms:HY}{x:Nat}{u v:V}{xs:List V}(h:cq H l ms)(hx:H l=some (.lst xs))(ht:H t=some (.tup [u,v,.int (x:Nat)])):cq (au H l (.lst (xs++[V.ref t]))) l (ms++[x]):=by
 obtain⟨ts,h1,h2,h3⟩:=h;rw[hx]at h1;cases h1;have hold:∀t' o,H t'=some (.tup o)->au H l (.lst (ts.map V.ref++[V.ref t])) t'=some (.tup o):=λt' o e=>by rw[ao (λz=>by rw[z,hx]at e;cases e)];exact e
 refine⟨ts++[t],by rw[ac,Hf];rfl,by rw[Hq,Hq,h2];rfl,λi b y e1 e2=>?_⟩
 by_cases hi:i<ts.length
 ·rw[Ho hi]at e1
  rw[Ho ⋯]at e2;obtain⟨u',v',e⟩:=h3 i b y e1 e2;exact⟨u',v',hold _ _ e⟩
 ·have hi2:i=ts.length:=by
   have:=(G5.mp e1).1;simp at this;omega
  subst hi2;rw[Hn (Hr _),Nat.sub_self]at e1;rw[h2,Hn (Hr _),Nat.sub_self]at e2;cases e1;cases e2
  exact⟨u,v,hold _ _ ht⟩
theorem cq.len{H:Hp}{l:Addr}{ms:HY}{xs:List V}(h:cq H l ms)(hx:H l=some (.lst xs)):xs.length=ms.length:=by
 obtain⟨ts,h1,h2,_⟩:=h;rw[hx]at h1;cases h1;rw[G7,h2]
noncomputable abbrev b5:Stmt:=eW 33 3
theorem m3:ay ["self","row","numbers","size","steps","number","rows","many"] ["self","row"] (ak b5):=by walk_at "c"
theorem nY{R:RC}{f CG CT yaa:Addr}{fd:Ie}{n:Nat}{t1:Tok}(F:cY K "reckoned" "TreeRows.reckoned" b5 f fd)(nb:NB mg)(yam:mg "MOST"=some (.int 6 t1))(ct:ia K CT)(nt:aq K CT "grammar"/\aq K CT "steps"/\aq K CT "totals")
  (yad:fF P w K mg base bF 1 "fewest" ["size"] (jE K)) (yak:eM P w K mg base (b7 P w) 1 CG "numbers_of" ["self","name"] (ci R CG yaa)) (yal:eM P w K mg base bF 1 CG "rule" ["self","k"] (eG R CG)) (yan:o8 P w K mg base bF 3 "part_rows" (kZ R))
  (ybP:eM P w K mg base (b7 P w) (4*n+5) CT "many_together" ["self","rows"] (cX R CG CT n)) :
  aZ P w K mg base (b7 P w) (4*n+6) f fd ["self","row"] (fq R CG CT yaa (n+1)):=by
 have sc:=m3;walk_at "x"
 ·obtain⟨a,dx,g,dg,d1,d2,b,sg,st,as,rs,m,p,rfl,_⟩:=h;rfl
 ·obtain⟨a,dx,g,dg,d1,d2,b,sg,st,as,rs,m,p,rfl,te,hb,cs⟩:=h
  have hu:=hr.units;refine⟨_,(ae (aB (i:=2) sc.nd rfl (Or.inl rfl) (ig yak (hr.mono ⋯) (b_ λ_ _ _ h=>h) (aV (al 0) rfl) (aa (aD aF (al 1) ah (λ_ _=>rfl)) ad)))
   (ae (aB (i:=3) sc.nd rfl (Or.inl rfl) (fH wk (al 1) (fR ah) (fR ah)))
   (ae (bj (PW.pt (my (aE (aW.m0 ju) (ax (xg rfl) rfl nb.max CO (aa (al 3) ad)) (eJ (v:=.int 6) rfl yam ⟨_,rfl⟩) (aI _)) (kt (aE (aW.m0 qd) (aD aF (al 1) ah (λ_ _=>rfl)) (aK (CX:=b7 P w) yad.lift (hr.mono ⋯) rfl bf (aa (al 3) ad)) (aI _)))))
   (ai (aG (bq ad)))
   aJ)
   (ae (aB (i:=4) sc.nd rfl (Or.inl rfl) (bq ad))
   (ae (bD PassesOwn.leaving rfl (bX (al 2)) (av (i:=5) sc.nd rfl (Or.inl rfl))
   (ai (bD PassesOwn.leaving rfl (bX (wI yan (hr.mono ⋯) bg (ig yal (hr.mono ⋯) bg (aV (al 0) rfl) (aa (al 5) ad)) (aa (aD aF (al 1) ah (λ_ _=>rfl)) (aa (aD aF (al 1) ah (λ_ _=>rfl)) (aa (aD aF (al 1) ah (λ_ _=>rfl)) ad))))) (av (i:=6) sc.nd rfl (Or.inl rfl))
   (ae (aB (i:=7) sc.nd rfl (Or.inl rfl) (ig ybP (hr.mono ⋯) (b_ λ_ _ _ h=>h) (al 0) (aa (al 6) ad)))
   (ai (bj (aE (aW.m0 ju) (al 7) ah (aI _))
   (ai (bu (gX PySem.F.plainAttrs_list PySem.F.slot_list_append PySem.F.type_list_append cA (al 4) (aa (aY (aa (al 5) (aa (al 6) (aa (al 7) ad)))) ad))))
   aJ))))))
   (ai (aG (al 4)))))))),?_⟩
  walk_at "n";obtain⟨lk,pn_,tt,hga,_⟩:=id te.gr;refine⟨CT,dx,_,te.at_,ct.cl,nt.1,_,rfl,g,rfl,dg,_,hga,rfl,_,bx.of hb,_,rfl,g,dg,sg,st,as,rs,tx p.1,rfl,te.gr,?_,?_⟩
  rotate_left
  ·intro hnone
   rcases cs with⟨dp,_⟩ | ⟨_,nn,ex⟩
   ·obtain⟨y,hy,e⟩:=HJ.mp dp.nm
    rw[<- e,(wQ hy).1]at hnone;cases hnone
   ·exact ex
  intro ns hns l1 H1 hl1 hL1 s1;rcases cs with⟨dp,_,pn,q⟩ | ⟨_,nn,ex⟩
  rotate_left
  ·rw[mD nn]at hns
   cases hns
  obtain⟨y,hy,ey⟩:=HJ.mp dp.nm;have hns':ns=bM (tx p.1) rs:=by
   have:=(wQ hy).1;rw[ey,hns]at this;exact Option.some.inj this
  subst hns';have hix:∀i∈bM (tx p.1) rs,_:=λi hi=>jC hi;have hixl:=xF (tx p.1) rs;have m6:=te.m6;have dr1:=dp.r1;have drm:=dp.rm;have dc1:=dp.c1;have dcm:=dp.cm;have dk:=dp.k16;refine h1 _ _ ?_;walk_at "nc";refine⟨_,bx.of (s1 _ _ hb),λps H2 hps s2=>h1 _ _ ?_⟩;clear h1;have hps:bx K H2 ps [V.int (p.2.1:Int),V.int (p.2.2.1:Int)]:=hps;have s02:=s1.trans s2;walk_at "n";refine⟨_,_,hps,?_⟩;rw[if_neg (by split<;>omega)];refine⟨_,bx.of (s02 _ _ hb),_,rfl,ps,p.2.1,p.2.2.1,rfl,hps,⋯,⋯,_,rfl,_,rfl,?_⟩
  by_cases hlow:p.2.2.2<fw p.2.1 p.2.2.1
  ·rw[if_pos hlow]
   exact⟨Hs _,λl hl=>q l [] _ (cW.of (s02.trans (af hl))) (te.up (s02.trans (af hl))).mm (cq.nil ac) (vO hlow).symm (Hs _)⟩
  rw[if_neg hlow];refine h1 _ _ ?_;clear h1;have k1:1<=p.2.2.2:=by have:=ck dr1 dc1;omega
  walk_at "n";refine⟨Hs _,λls hls=>h1 _ _ ?_⟩;clear h1;have fls:H ls=none:=s02.free hls;have nl1:l1≠ls:=λe=>by rw[<- e,s2 _ _ hL1]at hls;cases hls
  have s03:=s02.trans (af (o:=.lst []) hls);have e3:au H2 ls (.lst []) ls=some (.lst []):=ac;have hL3:=af (o:=.lst []) hls _ _ (s2 _ _ hL1);generalize au H2 ls (.lst [])=H3 at s03 e3 hL3 ⊢;have yaR:=wj te.gc (p:=p) dk;rw[if_neg ⋯]at yaR;have isum:=rq (λq=>((bP q p.2.1 p.2.2.1 p.2.2.2).map λps=>aM (CN rs) ps).sum) p.1 _ rs rfl;rw[<- yaR]at isum;generalize hS:(λq:Nat×RV=>((bP q p.2.1 p.2.2.1 p.2.2.2).map λps=>aM (CN rs) ps).sum)=S at isum;walk_at "n";refine⟨⟨_,aN.of hL3⟩,?_⟩;refine cR (xs:=uw (bM (tx p.1) rs)) (λi σ H'=>cW d1 d2 H H'/\i<=(bM (tx p.1) rs).length/\i8 st rs m H' d1 d2/\H' l1=some (.lst (uw (bM (tx p.1) rs)))/\(∃ms,cq H' ls ms/\ms.sum=(((bM (tx p.1) rs).take i).map λj=>(rs[j]?.map S).getD 0).sum/\ms.length<=75*i)/\∃x y z,σ=[some (V.ref a),some (V.ref b),some (V.ref l1),some (V.ref ps),some (V.ref ls),x,y,z]) ⟨.of s03,Hs _,(te.up s03).mm,hL3,⟨[],cq.nil e3,rfl,Hs _⟩,_,_,_,rfl⟩ (λi σ H' _ h=>aN.of h.2.2.2.1) ?_ ?_
  ·rintro i x σ H4 hx ⟨sd,hi,mm,hL4,⟨ms,hst,hsum,hml⟩,x1,y1,z1,rfl⟩
   have hlt:i<(bM (tx p.1) rs).length:=by have:=(G5.mp hx).1;rw[uw,G7]at this;exact this
   rw[uw,G9,G4 hlt]at hx;cases hx;obtain⟨qr,hqr,hqn⟩:=hix _ (Hc hlt);have hsn:(((bM (tx p.1) rs).take (i+1)).map λj=>(rs[j]?.map S).getD 0).sum=(((bM (tx p.1) rs).take i).map λj=>(rs[j]?.map S).getD 0).sum+S qr:=by
    rw[List.take_add_one,G4 hlt,Hf,List.sum_append];simp[hqr]
   generalize(bM (tx p.1) rs)[i]'hlt=num at hqr;have te4:=te.next sd mm;obtain⟨lk4,pn4,tt4,hg4,hk4,hR4,_⟩:=id te4.gr;have hbn:num<as.length:=by rw[hR4.1];exact(G5.mp hqr).1
   have hqm:qr∈rs:=G_ hqr;obtain⟨q4,qc,qc9⟩:=te.gc qr hqm;have hra:=hR4.2 num _ qr (G4 hbn) hqr;have hb4:=(te.kp sd).tup hb;walk_at "wp";refine⟨CT,dx,_,te4.at_,ct.cl,nt.1,_,rfl,g,rfl,dg,_,hg4,rfl,g,dg,sg,st,as,rs,num,as[num],rfl,te4.gr,G4 hbn,?_⟩;refine A_ hb4 q4 hra dr1 ⋯ dc1 ⋯ dk k1 qc qc9 (te.gt qr hqm) λl2 H5 hl2 hT5 s5=>?_;have hSq:S qr=((bP qr p.2.1 p.2.2.1 p.2.2.2).map λps=>aM (CN rs) ps).sum:=by rw[<- hS]
   have hprl:=uG q4 qc dr1 dc1 (by omega:p.2.1<=6) (by omega:p.2.2.1<=6) dk;have hpc:∀ps∈bP qr p.2.1 p.2.2.1 p.2.2.2,(∀p'∈ps,wJ st rs m p'/\0<n/\p'.2.2.2<(n:Int))/\ps.length<=2/\∀p1 p2,ps=[p1,p2]->p1.2.2.2<=7\/p2.2.2.2<=7:=λps hps=>by
    refine⟨λp' hp'=>?_,?_⟩
    ·obtain⟨d',lt'⟩:=dp.part te.gc hqm k1 hps hp'
     exact⟨d',by push_cast at pn;omega,by push_cast at pn;omega⟩
    ·rcases fT q4 dr1 dc1 hps with rfl | ⟨p',rfl,_⟩ | ⟨_,z,f,sz,f1,f2,rfl⟩
     ·exact⟨by simp,λp1 p2 e=>by cases e⟩
     ·exact⟨by simp,λp1 p2 e=>by cases e⟩
     ·refine⟨by simp,λp1 p2 e=>?_⟩
      cases e;show f<=7\/p.2.2.2-qr.2.c-f<=7;omega
   have hTT:=hT5;change dU H4 H5 l2 (bP qr p.2.1 p.2.2.1 p.2.2.2) at hTT;clear hT5;obtain⟨rw_,hrw,hrl,hre⟩:=hTT;generalize bP qr p.2.1 p.2.2.1 p.2.2.2=pss at hSq hprl hpc hrl hre;have hls4:∃xs,H4 ls=some (.lst xs):=let ⟨ts,h,_⟩:=hst;⟨_,h⟩
   have nls:l2≠ls:=λe=>by obtain⟨xs,h⟩:=hls4;rw[<- e,hl2]at h;cases h
   refine⟨l2,rfl,⟨_,aN.of hrw⟩,?_⟩;refine cR (xs:=rw_.map V.ref) (λj σ H'=>cW d1 d2 H H'/\j<=rw_.length/\i8 st rs m H' d1 d2/\H' l1=some (.lst (uw (bM (tx p.1) rs)))/\H' l2=some (.lst (rw_.map V.ref))/\(∀(i:Nat) a ps,rw_[i]?=some a->pss[i]?=some ps->sy H' a ps)/\(∃ms',cq H' ls ms'/\ms'.sum=ms.sum+((pss.take j).map λps=>aM (CN rs) ps).sum/\ms'.length<=75*i+j)/\∃y z,σ=[some (V.ref a),some (V.ref b),some (V.ref l1),some (V.ref ps),some (V.ref ls),some (V.int (num:Int)),y,z]) ⟨sd.trans (.of s5),Hs _,(te4.up s5).mm,s5 _ _ hL4,hrw,λi a ps e1 e2=>(hre i a ps e1 e2).2,⟨ms,hst.kp (.of s5),by simp,hml⟩,_,_,rfl⟩ (λj σ H' _ h=>aN.of h.2.2.2.2.1) ?_ ?_
   ·rintro j x σ H6 hx ⟨sd6,hj,mm6,hL6,hr6,hre6,⟨ms6,hst6,hsum6,hml6⟩,y2,z2,rfl⟩
    have hlt6:j<rw_.length:=by have:=(G5.mp hx).1;rwa [G7]at this
    rw[G9,G4 hlt6]at hx;cases hx;have hpj:pss[j]?=some (pss[j]'⋯):=G4 ⋯;have hTr:=hre6 j _ _ (G4 hlt6) hpj;obtain⟨pc1,pc2,pc3⟩:=hpc _ (Hc (show j<pss.length by omega));have hfr:=λi a ps e1 e2=>(hre i a ps e1 e2).1;have te6:=te.next sd6 mm6;have hsn6:((pss.take (j+1)).map λps=>aM (CN rs) ps).sum=((pss.take j).map λps=>aM (CN rs) ps).sum+aM (CN rs) (pss[j]'⋯):=by
     rw[List.take_add_one,hpj,Hf,List.sum_append];simp
    walk_at "n";refine⟨dx,_,te6.at_,rfl,a,dx,g,dg,d1,d2,_,sg,st,as,rs,m,_,rfl,te6,hTr,pc1,pc2,pc3,λH7 sd7 mm7=>h1 _ _ ?_⟩;clear h1;generalize aM (CN rs) (pss[j]'⋯)=many at hsn6;have kp7:=te6.kp sd7;have hst7:=hst6.kp kp7;walk_at "wp"
    by_cases h0:0<many
    ·rw[if_pos ⋯]
     obtain⟨xs7,hx7⟩:∃xs,H7 ls=some (.lst xs):=let ⟨ts,h,_⟩:=hst7;⟨_,h⟩
     have hxl:=hst7.len hx7;have n24:=te.n24;refine⟨.inl ⟨rfl,_,aN.of hx7⟩,am nofun,λp1 hp1=>?_⟩;have t1:=af (o:=.tup [V.int (num:Int),V.ref rw_[j],V.int (many:Int)]) hp1;have e1:au H7 p1 (.tup [V.int (num:Int),V.ref rw_[j],V.int (many:Int)]) p1=some (.tup [V.int (num:Int),V.ref rw_[j],V.int (many:Int)]):=ac;generalize au H7 p1 (.tup [V.int (num:Int),V.ref rw_[j],V.int (many:Int)])=H8 at t1 e1 ⊢;have hx8:=t1 _ _ hx7;obtain⟨m1,m2,hm1,hm2,hmm⟩:=mm7;have nd1:d1≠ls:=λe=>by rw[e,hx7]at hm1;cases hm1
     have nd2:d2≠ls:=λe=>by rw[e,hx7]at hm2;cases hm2
     refine⟨_,hx8,by rw[hxl];exact bb ⋯,?_,hlt6,⟨m1,m2,by rw[ao nd1];exact t1 _ _ hm1,by rw[ao nd2];exact t1 _ _ hm2,hmm⟩,by rw[ao nl1];exact t1 _ _ (kp7.lst hL6),by rw[ao nls];exact t1 _ _ (kp7.lst hr6),λi a ps x1 x2=>(((hre6 i a ps x1 x2).kp kp7).up t1).put ?_ ⟨_,hx8⟩,ms6++[many],(hst7.kp (.of t1)).app hx8 e1,?_,?_⟩
     ·intro x o n1 n2 e
      rw[ao (λz=>by rw[z,fls]at e;cases e)];exact t1 _ _ (sd7 x o n1 n2 (sd6 x o n1 n2 e))
     ·intro z
      have hz:=(hfr i a ps x1 x2).1;obtain⟨xs,h⟩:=hls4;rw[z,h]at hz;cases hz
     ·rw[List.sum_append,hsum6,hsn6];simp;omega
     ·rw[Hq];simp;omega
    ·rw[if_neg ⋯]
     refine⟨sd6.trans sd7,hlt6,mm7,kp7.lst hL6,kp7.lst hr6,λi a ps x1 x2=>(hre6 i a ps x1 x2).kp kp7,ms6,hst7,?_,⋯⟩;rw[hsum6,hsn6];omega
   ·rintro σ H6 ⟨sd6,_,mm6,hL6,hr6,hre6,⟨ms6,hst6,hsum6,hml6⟩,y2,z2,rfl⟩
    refine⟨sd6,hlt,mm6,hL6,⟨ms6,hst6,?_,?_⟩,_,_,_,rfl⟩
    ·rw[hsum6,hsn,hsum,hSq,G7,hrl,HE]
    ·rw[G7]at hml6;omega
  ·rintro σ H4 ⟨sd,_,mm,_,⟨ms,hst,hsum,hml⟩,x1,y1,z1,rfl⟩
   refine h1 _ _ ?_;walk_at "wp";have hl':(uw (bM (tx p.1) rs)).length=(bM (tx p.1) rs).length:=by rw[uw,G7]
   rw[hl',HE]at hsum;have n24:=te.n24;rw[hl']at hml;exact q ls ms H4 sd mm hst (by rw[hsum];exact isum) ⋯
theorem xi{zs:Ih}{z:Str}{k:List cE}(h:(Sum.inr z::k)∈yq zs):z∈zs:=by
 unfold yq at h;obtain⟨y,hy,h⟩:=List.mem_flatMap.mp h;obtain⟨r,_,h⟩:=List.mem_flatMap.mp h;obtain⟨c,_,h⟩:=List.mem_flatMap.mp h;obtain⟨j,_,e⟩:=HJ.mp h;have:=(List.cons.inj e).1;cases this;exact hy
theorem oO.bad{st:HY}{rs:Yaa}{m:Nat}{m1 m2:List (List cE×V)}{p:TR}(h:oO st rs m m1 m2)(hn:tx p.1∉(bd (tx st) rs).map (·.1)):bO m1 (dw p)=none:=by
 cases e:bO m1 (dw p) with
 |none=>rfl
 |some v=>exact absurd (xi (h.k1 _ (Bp e))) hn
theorem jD{kvs:List (List cE×V)}{k:List cE}{v:V}(hn:(kvs.map (·.1)).Nodup):((cn kvs k v).map (·.1)).Nodup/\∀x,x∈(cn kvs k v).map (·.1)->x=k\/x∈kvs.map (·.1):=by
 cases e:bO kvs k with
 |none=>exact⟨BR v hn e,λx hx=>by
   rw[nL v e,Hf,Hg]at hx;rcases hx with h | h
   ·exact .inr h
   ·exact .inl (by simpa using h)⟩
 |some u=>
  have e2:(cn kvs k v).map (·.1)=kvs.map (·.1):=by
   unfold cn;have hh:(kvs.any λkv=>decide (kv.1=k))=true:=by rw[dW,e];rfl
   rw[if_pos hh,Hh];refine List.map_congr_left λkv _=>?_;show(if kv.1=k then(kv.1,v) else kv).1=kv.1
   split<;>rfl
  rw[e2];exact⟨hn,λx hx=>.inr hx⟩
theorem oO.put{st:HY}{rs:Yaa}{m:Nat}{m1 m2:List (List cE×V)}{p:TR}{v:V}(h:oO st rs m m1 m2)(d:wJ st rs m p)(h6:m<=6):oO st rs m (cn m1 (dw p) v) (cn m2 (dw p) (.int (CN rs p:Nat))):=by
 have hm:=yY d h6;refine⟨(jD h.n1).1,(jD h.n2).1,λk hk=>?_,λk hk=>?_,λp' hp'=>?_⟩
 ·rcases(jD h.n1).2 k hk with e | e
  ·rw[e];exact hm
  ·exact h.k1 k e
 ·rcases(jD h.n2).2 k hk with e | e
  ·rw[e];exact hm
  ·exact h.k2 k e
 ·rw[nS]at hp' ⊢
  by_cases e:dw p'=dw p
  ·rw[if_pos e,AD e]
  ·rw[if_neg e]at hp' ⊢
   exact h.ok p' hp'
theorem um:∀ms:List Nat,(ms.map fun(x:Nat)=>(x:Int)).sum=((ms.sum:Nat):Int)
 | []=>rfl
 |x::ms=>by rw[Hx,List.sum_cons,List.sum_cons,um ms];push_cast;rfl
noncomputable abbrev b6:Stmt:=eW 33 2
theorem nU:ay ["self","row","steps"] ["self","row"] (ak b6):=by walk_at "c"
theorem n_{R:RC}{f CG CT yaa:Addr}{fd:Ie}{n:Nat}(F:cY K "steps_of" "TreeRows.steps_of" b6 f fd)(nb:NB mg)(yag:mg "sum"=none)(ct:ia K CT)(nt:aq K CT "grammar"/\aq K CT "steps"/\aq K CT "totals")
  (yby:eM P w K mg base (b7 P w) (4*n+6) CT "reckoned" ["self","row"] (fq R CG CT yaa (n+1))) :
  aZ P w K mg base (b7 P w) (4*n+7) f fd ["self","row"] (fA R CG CT yaa (n+1)):=by
 have sc:=nU;walk_at "x"
 ·obtain⟨a,dx,g,dg,d1,d2,b,sg,st,as,rs,m,p,rfl,_⟩:=h;rfl
 ·obtain⟨a,dx,g,dg,d1,d2,b,sg,st,as,rs,m,p,rfl,te,hb,cs⟩:=h
  have hu:=hr.units;refine⟨_,(ae (bj (yJ (pk (HH (HL (by decide:1<=64) _) hu) (al 1) (aV (al 0) rfl)) (by with_unfolding_all rfl))
   (ae (aB (i:=2) sc.nd rfl (Or.inl rfl) (ig yby (hr.mono ⋯) (b_ λ_ _ _ h=>h) (al 0) (aa (al 1) ad)))
   (ae (wl (HH (HL (by decide:1<=64) _) hu) (aV (al 0) rfl) (al 1) (al 2) rfl)
   (ai (wl (HH (HL (by decide:1<=64) _) hu) (aV (al 0) rfl) (al 1) (ax (lR rfl) rfl yag uE (aa (du ["number","rows","many"] [] rfl (bv.of (by kernel_rfl)) (by kernel_rfl) (bX (al 2))
    (λ_ _ _ _=>(qD (K:=K) (n:=3) rfl rfl (aL (av (i:=0) (by show(["number","rows","many"]:List Str).Nodup;decide +kernel) rfl (Or.inl rfl)) (aL (av (i:=1) (by show(["number","rows","many"]:List Str).Nodup;decide +kernel) rfl (Or.inl rfl)) (aL (av (i:=2) (by show(["number","rows","many"]:List Str).Nodup;decide +kernel) rfl (Or.inl rfl)) c_))))) (λ_ _ _ _=>cD) (λ_ _ _ _=>(al 2))) ad)) rfl))))
   aJ)
   (ai (aG (r8 (HH (HL (by decide:1<=64) _) hu) (aV (al 0) rfl) (al 1) (λ_ _=>rfl))))),?_⟩
  obtain⟨m1,m2,hm1,hm2,hmm⟩:=id te.mm;have hbk:H b=some (.tup ((dw p).map kV)):=hb;refine aj λN1 h1=>?_;refine rW λtb1 tb2 ee1 ee2=>?_;walk_at "wp";refine⟨CT,dx,_,te.at_,ct.cl,nt.2.1,_,rfl,d1,rfl,bO m1 (dw p),mE.t hm1 hbk,?_⟩;have fin:∀H',(∃v,mE H' d1 (V.ref b) (some v))->cW d1 d2 H H'->i8 st rs m H' d1 d2->wJ st rs m p->(∃m2,H' d2=some (.dT m2)/\bO m2 (dw p)=some (.int (CN rs p:Nat)))->∀x,N1 [some (V.ref a),some (V.ref b),x] H':=λH' ⟨v,hv⟩ sd mm dp hm2 x=>by
   refine h1 _ _ ?_;walk_at "wp";refine⟨CT,dx,_,(te.kp sd).ins te.at_,ct.cl,nt.2.1,_,rfl,d1,rfl,v,hv,?_⟩;rcases cs with⟨_,_,_,q⟩ | ⟨_,nn,_⟩
   ·exact q v H' sd mm hm2
   ·exact absurd dp.nm nn
  cases hv:bO m1 (dw p) with
  |some v=>
   rw[if_neg (by simp)];rw[ee2];rcases cs with⟨dp,n0,pn,q⟩ | ⟨_,nn,ex⟩
   ·walk_at "wp"
    refine fin H ⟨v,by rw[<- hv];exact mE.t hm1 hbk⟩ (λ_ _ _ _ e=>e) te.mm dp ⟨m2,hm2,hmm.ok p (by rw[hv];rfl)⟩ _
   ·rw[hmm.bad nn]at hv;cases hv
  |none=>
   rw[if_pos (by simp)];rw[ee1];walk_at "o";refine⟨dx,_,te.at_,rfl,a,dx,g,dg,d1,d2,b,sg,st,as,rs,m,p,rfl,te,hb,?_⟩;rcases cs with⟨dp,n0,pn,q⟩ | ⟨_,nn,ex⟩
   rotate_left
   ·exact .inr ⟨Nat.succ_pos _,nn,ex⟩
   refine .inl ⟨dp,n0,pn,λl ms H1 sd1 mm1 hst hsum hml=>h2 _ _ ?_⟩;clear h2;have te1:=te.next sd1 mm1;obtain⟨m1',m2',hm1',hm2',hmm'⟩:=id mm1;have kp1:=te.kp sd1;have hb1:H1 b=some (.tup ((dw p).map kV)):=kp1.tup hb;have hln:=hmm'.len te.nz;walk_at "o";refine⟨CT,dx,_,te1.at_,ct.cl,nt.2.1,_,rfl,d1,rfl,_,x_.t hm1' hb1 hln.1,h2 _ _ ?_⟩;clear h2;have kp2:Kp H1 (au H1 d1 (.dT (cn m1' (dw p) (V.ref l)))):=Kp.put hm1';have e21:au H1 d1 (.dT (cn m1' (dw p) (V.ref l))) d1=some (.dT (cn m1' (dw p) (V.ref l))):=ac;have e22:au H1 d1 (.dT (cn m1' (dw p) (V.ref l))) d2=some (.dT m2'):=by rw[ao te.ne.symm];exact hm2'
   have sd2:cW d1 d2 H (au H1 d1 (.dT (cn m1' (dw p) (V.ref l)))):=sd1.trans .put1;generalize au H1 d1 (.dT (cn m1' (dw p) (V.ref l)))=H2 at kp2 e21 e22 sd2 ⊢;have hst2:=hst.kp kp2;obtain⟨ts,hts,htl,hte⟩:=hst2;have hat2:=kp2.ins te1.at_;have hb2:=kp2.tup hb1;walk_at "wp";have hz1:(ts.zip ms).map (·.1)=ts:=List.map_fst_zip ⋯;have hz2:(ts.zip ms).map (·.2)=ms:=List.map_snd_zip ⋯;have hzr:(ts.zip ms).map (λz=>V.ref z.1)=ts.map V.ref:=by rw[<- congrArg (List.map V.ref) hz1,Hh];rfl
   refine⟨⟨_,aN.of hts⟩,?_⟩;refine dJ (as:=ts.zip ms) (emb:=λz=>V.ref z.1) (f:=λz=>some (V.int (z.2:Nat))) (λσ=>∃x y z,σ=[x,y,z]) ⟨_,_,_,rfl⟩ (λH' s'=>aN.of (by rw[hzr];exact s' _ _ hts)) (by rw[List.length_zip];omega) ?_ ?_
   ·rintro i z hz σ H' N1' N0 ⟨x,y,w,rfl⟩ sm k1 k0
    have h1:ts[i]?=some z.1/\ms[i]?=some z.2:=List.getElem?_zip_eq_some.mp hz;obtain⟨u,v,e⟩:=hte i z.1 z.2 h1.1 h1.2;walk_at "wp";exact⟨_,bx.of (sm _ _ e),rfl,_,_,rfl,_,_,rfl,_,_,rfl,rfl,k1 _ _ _ rfl sm ⟨_,_,_,rfl⟩⟩
   intro H3 s3 lc hlc;rw[lj];have emap:(ts.zip ms).map (λz=>V.int (z.2:Nat))=(ms.map fun(x:Nat)=>(x:Int)).map V.int:=by
    conv=>rhs;rw[<- hz2]
    rw[Hh,Hh];rfl
   rw[emap];have s4:=s3.trans (af (o:=.lst ((ms.map fun(x:Nat)=>(x:Int)).map V.int)) hlc);have e4:au H3 lc (.lst ((ms.map fun(x:Nat)=>(x:Int)).map V.int)) lc=some (.lst ((ms.map fun(x:Nat)=>(x:Int)).map V.int)):=ac;generalize au H3 lc (.lst ((ms.map fun(x:Nat)=>(x:Int)).map V.int))=H4 at s4 e4 ⊢;refine⟨_,aN.of e4,CT,dx,_,s4 _ _ hat2,ct.cl,nt.2.2,_,rfl,d2,rfl,_,x_.t (s4 _ _ e22) (s4 _ _ hb2) hln.2,?_⟩;rw[um,hsum];have nb2:b≠d2:=λe=>by rw[e,e22]at hb2;cases hb2
   refine fin _ ⟨V.ref l,?_⟩ ((sd2.trans (.of s4)).trans .put2) ⟨_,_,?_,ac,hmm'.put (v:=V.ref l) dp te.m6⟩ dp ⟨_,ac,by rw[nS,if_pos rfl]⟩ _
   ·have:=mE.t (H:=au H4 d2 (.dT (cn m2' (dw p) (V.int (CN rs p:Nat))))) (a:=d1) (b:=b) (kvs:=cn m1' (dw p) (V.ref l)) (k:=dw p) (by rw[ao te.ne];exact s4 _ _ e21) (by rw[ao nb2];exact s4 _ _ hb2)
    rw[nS,if_pos rfl]at this;exact this
   ·rw[ao te.ne];exact s4 _ _ e21
noncomputable abbrev bW:Stmt:=eW 33 1
theorem ka:ay ["self","row"] ["self","row"] (ak bW):=by walk_at "c"
theorem oS{R:RC}{f CG CT yaa:Addr}{fd:Ie}{n:Nat}(F:cY K "many_in" "TreeRows.many_in" bW f fd)(nb:NB mg)(ct:ia K CT)(nt:aq K CT "grammar"/\aq K CT "steps"/\aq K CT "totals")
  (ybX:eM P w K mg base (b7 P w) (4*n+7) CT "steps_of" ["self","row"] (fA R CG CT yaa (n+1))) :
  aZ P w K mg base (b7 P w) (4*n+8) f fd ["self","row"] (bZ R CG CT yaa (n+1)):=by
 have sc:=ka;walk_at "x"
 ·obtain⟨a,dx,g,dg,d1,d2,b,sg,st,as,rs,m,p,rfl,_⟩:=h;rfl
 ·obtain⟨a,dx,g,dg,d1,d2,b,sg,st,as,rs,m,p,rfl,te,hb,cs⟩:=h
  have hu:=hr.units;refine⟨_,(ae (bu (ig ybX (hr.mono ⋯) (b_ λ_ _ _ h=>h) (al 0) (aa (al 1) ad)))
   (ai (aG (r8 (HH (HL (by decide:1<=64) _) hu) (aV (al 0) rfl) (al 1) (λ_ _=>rfl))))),?_⟩
  walk_at "n";refine⟨dx,_,te.at_,rfl,a,dx,g,dg,d1,d2,b,sg,st,as,rs,m,p,rfl,te,hb,?_⟩;rcases cs with⟨dp,n0,pn,q⟩ | ⟨_,nn,ex⟩
  rotate_left
  ·exact .inr ⟨Nat.succ_pos _,nn,ex⟩
  refine .inl ⟨dp,n0,pn,λv H1 sd1 mm1 ⟨m2,hm2,hv⟩=>h1 _ _ ?_⟩;walk_at "wp";refine⟨CT,dx,_,(te.kp sd1).ins te.at_,ct.cl,nt.2.2,_,rfl,d2,rfl,_,?_,q H1 sd1 mm1⟩;have:=mE.t (k:=dw p) hm2 ((te.kp sd1).tup hb);rw[hv]at this;exact this
theorem xf{R:RC}{f CG CT yaa:Addr}{fd:Ie}(F:cY K "many_in" "TreeRows.many_in" bW f fd):aZ P w K mg base (b7 P w) 4 f fd ["self","row"] (bZ R CG CT yaa 0):=by
 have no:∀{vs:List V} {H:Hp} {Q:VK} {E:XK},¬ bZ R CG CT yaa 0 vs H Q E:=λh=>by
  obtain⟨a,dx,g,dg,d1,d2,b,sg,st,as,rs,m,p,_,_,_,⟨_,h0,_⟩ | ⟨h0,_⟩⟩:=h<;>exact absurd h0 ⋯
 exact F.okX (k:=3) (sp:=bZ R CG CT yaa 0) ka (λvs H Q E h=>absurd h no) (λcdv A outer s H vs Q E hr h=>absurd h no)
theorem ml{R:RC}{CG CT yaa f1 f2 f3 f4:Addr}{fd1 fd2 fd3 fd4:Ie}{t1:Tok}(F1:cY K "many_in" "TreeRows.many_in" bW f1 fd1)(F2:cY K "steps_of" "TreeRows.steps_of" b6 f2 fd2)(F3:cY K "reckoned" "TreeRows.reckoned" b5 f3 fd3)(F4:cY K "many_together" "TreeRows.many_together" bp f4 fd4)
  (nb:NB mg) (yag:mg "sum"=none) (yam:mg "MOST"=some (.int 6 t1)) (ct:ia K CT) (nt:aq K CT "grammar"/\aq K CT "steps"/\aq K CT "totals") (me1:dC K CT "many_in" f1) (me2:dC K CT "steps_of" f2) (me3:dC K CT "reckoned" f3) (me4:dC K CT "many_together" f4)
  (b1:cV K fd1 ["self","row"] []) (b2:cV K fd2 ["self","row"] []) (b3:cV K fd3 ["self","row"] []) (b4:cV K fd4 ["self","rows"] [])
  (yad:fF P w K mg base bF 1 "fewest" ["size"] (jE K)) (yak:eM P w K mg base (b7 P w) 1 CG "numbers_of" ["self","name"] (ci R CG yaa)) (yal:eM P w K mg base bF 1 CG "rule" ["self","k"] (eG R CG)) (yan:o8 P w K mg base bF 3 "part_rows" (kZ R)) :
  ∀n,eM P w K mg base (b7 P w) (4*n+4) CT "many_in" ["self","row"] (bZ R CG CT yaa n)
 |0=>⟨f1,fd1,xf F1,ct.cl,me1,b1⟩
 |n+1=>by
  have ih:=ml F1 F2 F3 F4 nb yag yam ct nt me1 me2 me3 me4 b1 b2 b3 b4 yad yak yal yan n;have c4:eM P w K mg base (b7 P w) (4*n+5) CT "many_together" ["self","rows"] (cX R CG CT n):=⟨f4,fd4,jX F4 nb ih,ct.cl,me4,b4⟩;have c3:eM P w K mg base (b7 P w) (4*n+6) CT "reckoned" ["self","row"] (fq R CG CT yaa (n+1)):=⟨f3,fd3,nY F3 nb yam ct nt yad yak yal yan c4,ct.cl,me3,b3⟩;have c2:eM P w K mg base (b7 P w) (4*n+7) CT "steps_of" ["self","row"] (fA R CG CT yaa (n+1)):=⟨f2,fd2,n_ F2 nb yag ct nt c3,ct.cl,me2,b2⟩;exact⟨f1,fd1,oS F1 nb ct nt c2,ct.cl,me1,b1⟩
noncomputable abbrev gx:Stmt:=kD 34
structure zD(st:HY)(rs:Yaa)(m:Nat):Prop where
 gc:fz rs
 gt:∀q∈rs,0<=q.2.t
 sm:∀p:TR,p.2.1<=m->p.2.2.1<=m->p.2.2.2<=7->CN rs p<2 ^ 64
 m6:m<=6
 n24:rs.length<=24
 nz:(bd (tx st) rs).length<=100
inductive fm(R:RC)(CG CN_:Addr)(vs:List V)(H:Hp)(Q:VK)(E:XK):Prop
 |mk (g dg:Addr) (sg st:HY) (as:Ib) (rs:Yaa) (m:Nat) (p:TR) (_:vs=[.ref g,.str (tx p.1),.int (p.2.1:Int),.int (p.2.2.1:Int),.int p.2.2.2]) (_:dX R H CG dg g sg st as rs) (_:zD st rs m) (_:((wJ st rs m p/\∀H',az H H'->Q (.int (CN rs p:Nat)) H')\/(tx p.1∉(bd (tx st) rs).map (·.1)/\∀H',az H H'->E (.ref CN_) none H')))
theorem n8:ay ["grammar","name","rows","columns","cost"] ["grammar","name","rows","columns","cost"] (ak gx):=by walk_at "c"
theorem ny{R:RC}{f CG CT yaa:Addr}{fd:Ie}(F:cY K "count_trees" "count_trees" gx f fd)(nb:NB mg)(ct:ia K CT)(nt:aq K CT "grammar"/\aq K CT "steps"/\aq K CT "totals")
  (yaA:iF P w K mg base bF 1 "TreeRows" CT ["self","grammar"] (km K)) (yap:eM P w K mg base (b7 P w) 72 CT "many_in" ["self","row"] (bZ R CG CT yaa 17)) :
  aZ P w K mg base (b7 P w) 73 f fd ["grammar","name","rows","columns","cost"] (fm R CG yaa):=by
 have sc:=n8;walk_at "x"
 ·obtain⟨g,dg,sg,st,as,rs,m,p,rfl,_⟩:=h;rfl
 ·obtain⟨g,dg,sg,st,as,rs,m,p,rfl,gr,ok,cs⟩:=h
  have hu:=hr.units;refine⟨_,(ai (aG (ig yap (hr.mono nofun) (b_ λ_ _ _ h=>h) (dB yaA (hr.mono nofun) rfl bg (aa (al 0) ad)) (aa (aY (aa (al 1) (aa (al 2) (aa (al 3) (aa (al 4) ad))))) ad)))),?_⟩;walk_at "wp";intro x dx hx hdx hne;have sm1:az H (au (au H dx (.own x)) x (.ins CT dx [])):=(af hdx).trans (af (by rw[ao (Ne.symm hne)];exact hx));refine⟨x,CT,dx,g,rfl,ac,ct.cl,nt,λd1 d2 H2 f1 f2 n12 ex ed1 ed2 sx=>⟨rfl,dx,_,ex,rfl,am nofun,λb hb=>?_⟩⟩;have s2:az H H2:=λy u e=>sx y u (aA e hx) (sm1 y u e);have s3:=af (o:=.tup (oX p)) hb;have s03:=s2.trans s3;have te:lN R CG CT (au H2 b (.tup (oX p))) x dx g dg d1 d2 sg st as rs m:=⟨s3 _ _ ex,n12,gr.up s03,ok.gc,ok.gt,ok.sm,ok.m6,ok.n24,ok.nz,[],[],s3 _ _ ed1,s3 _ _ ed2,⟨List.nodup_nil,List.nodup_nil,(λk h=>nomatch h),(λk h=>nomatch h),(λp h=>by cases h)⟩⟩;refine⟨x,dx,g,dg,d1,d2,b,sg,st,as,rs,m,p,rfl,te,ac,?_⟩;rcases cs with⟨dp,q⟩ | ⟨nn,ex'⟩
  ·exact .inl ⟨dp,nofun,by have:=dp.k16;omega,λH4 sd mm=>q H4 λy u e=>sd y u (λz=>by rw[z,sm1.free f1]at e;cases e) (λz=>by rw[z,sm1.free f2]at e;cases e) (s03 y u e)⟩
  ·exact .inr ⟨nofun,nn,ex' _ s03⟩
theorem uW{B:Nat}{f:TR->Nat}{q:Nat×RV}{r c:Nat}{k:Int}{ps:List TR}(h4:q.1<4)(hq:1<=q.2.c)(hr:1<=r)(hc:1<=c)(hk:1<=k)(h:ps∈bP q r c k)(hf:∀p∈ps,f p<=2 ^ (B*p.2.2.2.toNat)):aM f ps<=2 ^ (B*(k-1).toNat):=by
 have mono:∀{a b:Nat},a<=b->2 ^ (B*a)<=2 ^ (B*b):=λh=>Nat.pow_le_pow_right nofun (Nat.mul_le_mul_left _ h);rcases fT h4 hr hc h with rfl | ⟨p,rfl,e1,e2,e3⟩ | ⟨_,z,x,sz,f1,f2,rfl⟩
 ·exact Nat.one_le_two_pow
 ·have h1:=hf p List.mem_cons_self
  show 1*f p<=_;rw[Nat.one_mul];exact Hy h1 (mono ⋯)
 ·have g1:=ck sz.a sz.b
  have g2:=ck sz.d sz.e;have h1:=hf _ List.mem_cons_self;have h2:=hf _ (Hj _ List.mem_cons_self);show 1*f _*f _<=_;rw[Nat.one_mul];refine Hy (Nat.mul_le_mul h1 h2) ?_;rw[<- Nat.pow_add,<- Nat.mul_add];exact mono (by show x.toNat+(k-q.2.c-x).toNat<=_;omega)
theorem wf{rs:Yaa}(hg:fz rs){B L:Nat}{kx:Int}(hL:∀q∈rs,∀(r c:Nat) (k:Int),1<=r->r<=6->1<=c->c<=6->k<=kx->(bP q r c k).length<=L)(hB:rs.length*L<=2 ^ B):∀(f:Nat) (p:TR),p.2.1<=6->p.2.2.1<=6->p.2.2.2<=kx->cnt rs f p<=2 ^ (B*p.2.2.2.toNat)
 |0,_,_,_,_=>Hs _
 |f+1,p,hr6,hc6,hk=>by
  unfold cnt
  split
  ·exact Hs _
  ·rename_i hn
   have hr:1<=p.2.1:=by omega
   have hc:1<=p.2.2.1:=by omega
   have k1:1<=p.2.2.2:=by have:=ck hr hc;omega
   refine Hy (qF _ (L*2 ^ (B*(p.2.2.2-1).toNat)) _ λq hq=>?_) ?_
   ·obtain⟨q4,qc,_⟩:=hg q (fX hq).1
    refine Hy (qF _ (2 ^ (B*(p.2.2.2-1).toNat)) _ λps hps=>?_) ?_
    ·refine uW q4 qc hr hc k1 hps λp' hp'=>?_
     have po:=lz q4 qc hr hc hps hp';have:=po.rm;have:=po.cm;have:=po.lt;exact wf hg hL hB f p' ⋯ ⋯ ⋯
    ·exact Nat.mul_le_mul (hL q (fX hq).1 _ _ _ hr hr6 hc hc6 hk) (Hr _)
   ·have hl:(cj p.1 rs).length<=rs.length:=List.length_filter_le _ _
    refine Hy (Nat.mul_le_mul hl (Hr _)) ?_;rw[<- Nat.mul_assoc];have e:B*p.2.2.2.toNat=B+B*(p.2.2.2-1).toNat:=by
     rw[show p.2.2.2.toNat=1+(p.2.2.2-1).toNat by omega,Nat.mul_add,Nat.mul_one]
    rw[e,Nat.pow_add];exact Nat.mul_le_mul hB (Hr _)
theorem fM{rs:Yaa}(h:∀r∈rs,dZ r):fz rs:=λq hq=>⟨(h q hq).k4,(h q hq).good.c1,(h q hq).good.c9⟩
inductive Sd(rs:Yaa):bI->TR->bz->Prop
 |cell {n:Nat} {v:RV}:rs[n]?=some (0,v)->Sd rs (.n0 n) (v.n,1,1,v.c) [v.sg]
 |turn {n:Nat} {v:RV} {t:bI} {r c:Nat} {k:Int} {pc:bz}:rs[n]?=some (3,v)->Sd rs t (v.o1,r,c,k) pc->Sd rs (.n1 n t) (v.n,if v.t%2=1 then c else r,if v.t%2=1 then r else c,v.c+k) (turned pc v.t.toNat)
 |beside {n:Nat} {v:RV} {t1 t2:bI} {r c1 c2:Nat} {k1 k2:Int} {q1 q2 pc:bz}:rs[n]?=some (1,v)->Sd rs t1 (v.o1,r,c1,k1) q1->Sd rs t2 (v.o2,r,c2,k2) q2->fS 1 v [q1,q2]=some pc->Sd rs (.n2 n t1 t2) (v.n,r,c1+c2,v.c+(k1+k2)) pc
 |above {n:Nat} {v:RV} {t1 t2:bI} {r1 r2 c:Nat} {k1 k2:Int} {q1 q2 pc:bz}:rs[n]?=some (2,v)->Sd rs t1 (v.o1,r1,c,k1) q1->Sd rs t2 (v.o2,r2,c,k2) q2->fS 2 v [q1,q2]=some pc->Sd rs (.n2 n t1 t2) (v.n,r1+r2,c,v.c+(k1+k2)) pc
theorem mv{v:RV}{p1 p2 p:bz}{r c r' c':Nat}(h1:fk p1 r c)(h2:fk p2 r' c')(m:fS 1 v [p1,p2]=some p):r=r'/\fk p r (c+c'):=by
 have e1:=bT h1.rc h1.r0;have e2:=bT h2.rc h2.r0;have l1:=h1.rc.1;have l2:=h2.rc.1;have m':(if p1.length=p2.length/\(p1.headD []).length+(p2.headD []).length<=6 then some (put2 p1 p2) else none)=some p:=m
 by_cases c0:p1.length=p2.length/\(p1.headD []).length+(p2.headD []).length<=6
 ·rw[if_pos c0]at m'
  cases m';rw[l1,l2,e1,e2]at c0;refine⟨c0.1,⟨⟨by unfold put2;rw[G7,List.length_zip,l1,l2];omega,λx hx=>?_⟩,h1.r0,h1.r6,by have:=h1.c0;omega,c0.2⟩⟩;unfold put2 at hx;obtain⟨y,hy,rfl⟩:=HJ.mp hx;have:=List.of_mem_zip hy;rw[Hq,h1.rc.2 _ this.1,h2.rc.2 _ this.2]
 ·rw[if_neg c0]at m';cases m'
theorem nE{v:RV}{p1 p2 p:bz}{r c r' c':Nat}(h1:fk p1 r c)(h2:fk p2 r' c')(m:fS 2 v [p1,p2]=some p):c=c'/\fk p (r+r') c:=by
 have e1:=bT h1.rc h1.r0;have e2:=bT h2.rc h2.r0;have l1:=h1.rc.1;have l2:=h2.rc.1;have m':(if(p1.headD []).length=(p2.headD []).length/\p1.length+p2.length<=6 then some (p1++p2) else none)=some p:=m
 by_cases c0:(p1.headD []).length=(p2.headD []).length/\p1.length+p2.length<=6
 ·rw[if_pos c0]at m'
  cases m';rw[l1,l2,e1,e2]at c0;refine⟨c0.1,⟨⟨by rw[Hq,l1,l2],λx hx=>?_⟩,by have:=h1.r0;omega,c0.2,h1.c0,h1.c6⟩⟩;rcases Hg.mp hx with hx | hx
  ·exact h1.rc.2 _ hx
  ·rw[h2.rc.2 _ hx];exact c0.1.symm
 ·rw[if_neg c0]at m';cases m'
theorem Ds{v:RV}(h0:0<=v.t):(v.t%2=1)↔¬ (v.t.toNat%2=0):=by omega
theorem xR{v:RV}{pc:bz}{r c:Nat}(h0:0<=v.t)(h:fk pc r c):fk (turned pc v.t.toNat) (if v.t%2=1 then c else r) (if v.t%2=1 then r else c):=by
 have hr:=tF h.rc h.r0 h.c0 v.t.toNat;have o:=Ds h0
 by_cases e:v.t.toNat%2=0
 ·rw[if_pos e,if_pos e]at hr
  rw[if_neg (λz=>(o.mp z) e),if_neg (λz=>(o.mp z) e)];exact⟨hr,h.r0,h.r6,h.c0,h.c6⟩
 ·rw[if_neg e,if_neg e]at hr
  rw[if_pos (o.mpr e),if_pos (o.mpr e)];exact⟨hr,h.c0,h.c6,h.r0,h.r6⟩
theorem Sd.pic{rs:Yaa}(hg:∀r∈rs,dZ r){t:bI}{p:TR}{pc:bz}(h:Sd rs t p pc):fk pc p.2.1 p.2.2.1:=by
 induction h with
 | @cell n v e=>
  have:=pJ (hg _ (G_ e)).good.sg;exact⟨⟨rfl,λx hx=>by rw[G8.mp hx];exact this⟩,(show 0<1 by decide),(show 1<=6 by decide),(show 0<1 by decide),(show 1<=6 by decide)⟩
 | @turn n v t r c k pc e _ ih=>exact xR (hg _ (G_ e)).good.t0 ih
 |beside e _ _ m ih1 ih2=>exact(mv ih1 ih2 m).2
 |above e _ _ m ih1 ih2=>exact(nE ih1 ih2 m).2
theorem mV(r c:Nat):fw r c=fw c r:=by rw[gH,gH,Nat.mul_comm]
theorem Sd.low{rs:Yaa}(hg:∀r∈rs,dZ r){t:bI}{p:TR}{pc:bz}(h:Sd rs t p pc):fw p.2.1 p.2.2.1<=p.2.2.2/\((t.cnt:Nat):Int)<=p.2.2.2:=by
 induction h with
 | @cell n v e=>
  have hc:1<=v.c:=(hg _ (G_ e)).good.c1;exact⟨by show fw 1 1<=v.c;rw[gH];simp;omega,by show((1:Nat):Int)<=v.c;omega⟩
 | @turn n v t r c k pc e _ ih=>
  have hc:1<=v.c:=(hg _ (G_ e)).good.c1;have h1:fw r c<=k:=ih.1;have h2:((t.cnt:Nat):Int)<=k:=ih.2;refine⟨?_,by show((t.cnt+1:Nat):Int)<=v.c+k;omega⟩;show fw (if v.t%2=1 then c else r) (if v.t%2=1 then r else c)<=v.c+k
  split
  ·rw[mV];omega
  ·omega
 | @beside n v t1 t2 r c1 c2 k1 k2 q1 q2 pc e _ _ m ih1 ih2=>
  have hc:1<=v.c:=(hg _ (G_ e)).good.c1;have h1:fw r c1<=k1:=ih1.1;have h2:fw r c2<=k2:=ih2.1;have h3:((t1.cnt:Nat):Int)<=k1:=ih1.2;have h4:((t2.cnt:Nat):Int)<=k2:=ih2.2;refine⟨?_,by show((t1.cnt+t2.cnt+1:Nat):Int)<=v.c+(k1+k2);omega⟩;show fw r (c1+c2)<=v.c+(k1+k2);rw[gH]at h1 h2 ⊢;rw[Nat.mul_add];omega
 | @above n v t1 t2 r1 r2 c k1 k2 q1 q2 pc e _ _ m ih1 ih2=>
  have hc:1<=v.c:=(hg _ (G_ e)).good.c1;have h1:fw r1 c<=k1:=ih1.1;have h2:fw r2 c<=k2:=ih2.1;have h3:((t1.cnt:Nat):Int)<=k1:=ih1.2;have h4:((t2.cnt:Nat):Int)<=k2:=ih2.2;refine⟨?_,by show((t1.cnt+t2.cnt+1:Nat):Int)<=v.c+(k1+k2);omega⟩;show fw (r1+r2) c<=v.c+(k1+k2);rw[gH]at h1 h2 ⊢;rw[Nat.add_mul];omega
theorem bI.dep_cnt:∀t:bI,t.dep<=t.cnt
 | .n0 _=>Hr _
 | .n1 _ a=>by have:=bI.dep_cnt a;simp only[bI.dep,bI.cnt];omega
 | .n2 _ a b=>by have:=bI.dep_cnt a;have:=bI.dep_cnt b;simp only[bI.dep,bI.cnt];omega
theorem Sd.node{rs:Yaa}(hg:∀r∈rs,dZ r){t:bI}{p:TR}{pc:bz}(h:Sd rs t p pc):∃(n:Nat) (q:Nat×RV) (ps:List TR),t.i=(n:Int)/\rs[n]?=some q/\q.2.n=p.1/\ps.length=t.ps.length/\ps.length<=2/\(∀(i:Nat) t' p',t.ps[i]?=some t'->ps[i]?=some p'->∃pc',Sd rs t' p' pc'/\p'.2.2.2<p.2.2.2)/\ps∈bP q p.2.1 p.2.2.1 p.2.2.2:=by
 cases h with
 | @cell n v e=>
  refine⟨n,(0,v),[],rfl,e,rfl,rfl,by simp,λi t' p' h=>by simp[bI.ps]at h,?_⟩;show[]∈(if 1=1/\1=1/\v.c=v.c then[[]] else[]);simp
 | @turn n v t r c k pc e s=>
  have hc:1<=v.c:=(hg _ (G_ e)).good.c1;refine⟨n,(3,v),[(v.o1,r,c,k)],rfl,e,rfl,rfl,by simp,λi t' p' h1 h2=>?_,?_⟩
  ·match i,h1,h2 with
   |0,h1,h2=>cases h1;cases h2;exact⟨_,s,by show k<v.c+k;omega⟩
   |i+1,h1,_=>simp[bI.ps]at h1
  ·show[(v.o1,r,c,k)]∈[[(v.o1,(if v.t%2=1 then(if v.t%2=1 then r else c) else(if v.t%2=1 then c else r)),(if v.t%2=1 then(if v.t%2=1 then c else r) else(if v.t%2=1 then r else c)),v.c+k-v.c)]]
   by_cases o:v.t%2=1<;>simp[o]<;>omega
 | @beside n v t1 t2 r c1 c2 k1 k2 q1 q2 pc e s1 s2 m=>
  have hc:1<=v.c:=(hg _ (G_ e)).good.c1;have l1:=(s1.low hg).1;have l2:=(s2.low hg).1;have d1:=s1.pic hg;have d2:=s2.pic hg;have f1:1<=fw r c1:=ck d1.r0 d1.c0;have f2:1<=fw r c2:=ck d2.r0 d2.c0;have l1:fw r c1<=k1:=l1;have l2:fw r c2<=k2:=l2;refine⟨n,(1,v),[(v.o1,r,c1,k1),(v.o2,r,c2,k2)],rfl,e,rfl,rfl,by simp,λi t' p' h1 h2=>?_,?_⟩
  ·match i,h1,h2 with
   |0,h1,h2=>cases h1;cases h2;exact⟨_,s1,by show k1<v.c+(k1+k2);omega⟩
   |1,h1,h2=>cases h1;cases h2;exact⟨_,s2,by show k2<v.c+(k1+k2);omega⟩
   |i+2,h1,_=>simp[bI.ps]at h1
  ·show _∈aO v.o1 v.o2 (bQ r (c1+c2)) (v.c+(k1+k2)-v.c)
   have h1:=d1.c0;have h2:=d2.c0;simp only at h1 h2;refine List.mem_flatMap.mpr ⟨((r,c1),(r,c2)),HJ.mpr ⟨c1-1,List.mem_range.mpr ⋯,?_⟩,HJ.mpr ⟨k1,lU.mpr ⟨l1,by show k1<v.c+(k1+k2)-v.c-fw r c2+1;omega⟩,?_⟩⟩
   ·rw[show 1+(c1-1)=c1 by omega,show c1+c2-c1=c2 by omega]
   ·rw[show v.c+(k1+k2)-v.c-k1=k2 by omega]
 | @above n v t1 t2 r1 r2 c k1 k2 q1 q2 pc e s1 s2 m=>
  have hc:1<=v.c:=(hg _ (G_ e)).good.c1;have l1:=(s1.low hg).1;have l2:=(s2.low hg).1;have d1:=s1.pic hg;have d2:=s2.pic hg;have f1:1<=fw r1 c:=ck d1.r0 d1.c0;have f2:1<=fw r2 c:=ck d2.r0 d2.c0;have l1:fw r1 c<=k1:=l1;have l2:fw r2 c<=k2:=l2;refine⟨n,(2,v),[(v.o1,r1,c,k1),(v.o2,r2,c,k2)],rfl,e,rfl,rfl,by simp,λi t' p' h1 h2=>?_,?_⟩
  ·match i,h1,h2 with
   |0,h1,h2=>cases h1;cases h2;exact⟨_,s1,by show k1<v.c+(k1+k2);omega⟩
   |1,h1,h2=>cases h1;cases h2;exact⟨_,s2,by show k2<v.c+(k1+k2);omega⟩
   |i+2,h1,_=>simp[bI.ps]at h1
  ·show _∈aO v.o1 v.o2 (bR (r1+r2) c) (v.c+(k1+k2)-v.c)
   have h1:=d1.r0;have h2:=d2.r0;simp only at h1 h2;refine List.mem_flatMap.mpr ⟨((r1,c),(r2,c)),HJ.mpr ⟨r1-1,List.mem_range.mpr ⋯,?_⟩,HJ.mpr ⟨k1,lU.mpr ⟨l1,by show k1<v.c+(k1+k2)-v.c-fw r2 c+1;omega⟩,?_⟩⟩
   ·rw[show 1+(r1-1)=r1 by omega,show r1+r2-r1=r2 by omega]
   ·rw[show v.c+(k1+k2)-v.c-k1=k2 by omega]
theorem Sd.row{rs:Yaa}(hg:∀r∈rs,dZ r){t:bI}{p:TR}{pc:bz}(h:Sd rs t p pc)(k16:p.2.2.2<=16):jt p:=by
 have:=h.pic hg;exact⟨this.r0,this.r6,this.c0,this.c6,k16⟩
theorem Bd{rs:Yaa}{p:TR}{n:Nat}{q:Nat×RV}{ps:List TR}(hq:rs[n]?=some q)(hn:q.2.n=p.1)(hps:ps∈bP q p.2.1 p.2.2.1 p.2.2.2)(h0:0<aM (CN rs) ps)(hf:fw p.2.1 p.2.2.1<=p.2.2.2):(n,ps,aM (CN rs) ps)∈dF rs p:=by
 unfold dF;rw[if_neg ⋯];refine List.mem_flatMap.mpr ⟨n,?_,?_⟩
 ·unfold bM
  exact List.mem_filterMap.mpr ⟨(q,n),List.mem_zipIdx_iff_getElem?.mpr hq,by rw[if_pos (by rw[hn])]⟩
 ·unfold lK
  rw[hq];exact List.mem_filterMap.mpr ⟨ps,hps,by rw[if_pos h0]⟩
theorem py{F:TR->List bI}:∀{ps:List TR} {ts:List bI},ts.length=ps.length->(∀(i:Nat) t p,ts[i]?=some t->ps[i]?=some p->t∈F p)->ts∈eD F ps
 | [],ts,hl,_=>by
  have:ts=[]:=HI.mp hl;subst this;simp[eD]
 |p::ps,[],hl,_=>by simp at hl
 |p::ps,t::ts,hl,h=>List.mem_flatMap.mpr ⟨t,h 0 t p rfl rfl,HJ.mpr ⟨ts,py (by simpa using hl) λi t' p' e1 e2=>h (i+1) t' p' e1 e2,rfl⟩⟩
theorem Sd.mem{rs:Yaa}(hg:∀r∈rs,dZ r):∀(n:Nat) {t:bI} {p:TR} {pc:bz},t.dep<=n->Sd rs t p pc->p.2.2.2<=16->t∈RT rs p
 |0,t,p,pc,h,_,_=>absurd t.dep1 ⋯
 |n+1,t,p,pc,h,sd,k16=>by
  have gc:=fM hg;have ok:=sd.row hg k16;obtain⟨m,q0,ps,hi,hq,hnm,hpl,hp2,hpp,hpr⟩:=sd.node hg;have hts:t.ps∈eD (RT rs) ps:=py hpl.symm λi t' p' e1 e2=>by
   obtain⟨pc',sd',lt'⟩:=hpp i t' p' e1 e2;have:=(bI.lt (G_ e1)).1;exact Sd.mem hg n ⋯ sd' ⋯
  have okp:∀p'∈ps,jt p':=λp' hp'=>by
   obtain⟨i,hi,e⟩:=List.getElem_of_mem hp';have e2:ps[i]?=some p':=by rw[G4 hi,e]
   obtain⟨pc',sd',lt'⟩:=hpp i (t.ps[i]'⋯) p' (G4 ⋯) e2;exact sd'.row hg ⋯
  have h0:0<aM (CN rs) ps:=by
   have:=List.length_pos_of_mem hts
   rwa [qg (g:=CN rs) λp' hp'=>lZ gc (okp p' hp')]at this
  rw[wn gc ok];refine List.mem_flatMap.mpr ⟨_,Bd hq hnm hpr h0 (sd.low hg).1,HJ.mpr ⟨t.ps,hts,?_⟩⟩;show zV (m:Int) t.ps=t;rw[<- hi,BH]
noncomputable abbrev rK:Stmt:=kD 16
inductive tE(vs:List V)(H:Hp)(Q:VK)(_E:XK):Prop
 |mk (t u:Nat) (_:vs=[.int (t:Int),.int (u:Int)]) (_:t<8) (_:u<8) (_:Q (.int (after t u:Nat)) H)
theorem At:ay ["t","u"] ["t","u"] (ak rK):=by walk_at "c"
theorem Am{f:Addr}{fd:Ie}(F:cY K "after" "after" rK f fd):aZ P w K mg base bF 1 f fd ["t","u"] tE:=by
 have sc:=At;walk_at "f"
 ·obtain⟨t,u,rfl,_⟩:=h;rfl
 ·obtain⟨t,u,rfl,ht,hu,q⟩:=h
  refine⟨_,(ae (bj (aE (aW.m0 qd) (al 1) ah (aI _))
   (ai (aG (ar (aW.m0 bN) (ar (aW.m1 dN) (ar (aW.m1 a_) (al 0) ah) ah) (ar (aW.m1 aQ) (ar (aW.m0 bN) (al 0) (al 1)) ah))))
   aJ)
   (ai (aG (ar (aW.m0 bN) (ar (aW.m1 dN) (ar (aW.m0 dc) ah (ar (aW.m1 a_) (al 0) ah)) ah) (ar (aW.m1 aQ) (ar (aW.m0 dc) (al 1) (al 0)) ah))))),?_⟩
  walk_at "wp"
  split
  ·have e:((after t u:Nat):Int)=(t:Int)/4*4+((t:Int)+u)%4:=by unfold after;rw[if_pos ⋯];omega
   rw[<- e];exact q
  ·have e:((after t u:Nat):Int)=(1-(t:Int)/4)*4+((u:Int)-t)%4:=by unfold after;rw[if_neg ⋯];omega
   rw[<- e];exact q
noncomputable abbrev vp:Stmt:=kD 17
inductive wA(vs:List V)(H:Hp)(Q:VK)(_E:XK):Prop
 |mk (t:Nat) (_:vs=[.int (t:Int)]) (_:t<8) (_:Q (.int (dD t:Nat)) H)
theorem AO:ay ["t"] ["t"] (ak vp):=by walk_at "c"
theorem Bs{f:Addr}{fd:Ie}(F:cY K "back" "back" vp f fd):aZ P w K mg base bF 1 f fd ["t"] wA:=by
 have sc:=AO;walk_at "f"
 ·obtain⟨t,rfl,_⟩:=h;rfl
 ·obtain⟨t,rfl,ht,q⟩:=h
  refine⟨_,(ae (bj (aE (aW.m0 qd) (al 0) ah (aI _))
   (ai (aG (ar (aW.m1 aQ) (ar (aW.m0 dc) ah (al 0)) ah)))
   aJ)
   (ai (aG (al 0)))),?_⟩
  walk_at "wp"
  split
  ·have e:((dD t:Nat):Int)=(4-(t:Int))%4:=by unfold dD;rw[if_pos ⋯];omega
   rw[<- e];exact q
  ·have e:((dD t:Nat):Int)=(t:Int):=by unfold dD;rw[if_neg ⋯]
   rw[<- e];exact q
noncomputable def sS(s:Bool×Bool):Bool×Bool:=(!s.1,if s.1=true then s.2 else !s.2)
theorem wy:∀(n:Nat) (s:Bool×Bool),qT (n+1) s=sS (qT n s)
 |0,_=>rfl
 |n+1,s=>by
  show qT (n+1) (sS s)=sS (qT n (sS s));exact wy n (sS s)
noncomputable def kr(sw:Bool)(v:RV):RV:=if sw=true then{v with o1:=v.o2,o2:=v.o1} else v
noncomputable def oE(k t:Nat):Nat:=match k with | 0=>0 | 1=>if(bJ true t).1=true then 1 else 2 | 2=>if(bJ false t).1=true then 1 else 2 | _=>3
noncomputable def gP(k t:Nat)(v:RV):RV:=match k with | 0=>v | 1=>kr (bJ true t).2 v | 2=>kr (bJ false t).2 v | _=>{v with t:=(after (after (dD t) v.t.toNat) t:Nat)}
theorem gN{sw:Bool}{v:RV}(g:v.good):(kr sw v).good:=by
 unfold kr
 split
 ·exact⟨g.n,g.c1,g.c9,g.o2,g.o1,g.sg,g.t0,g.t7⟩
 ·exact g
theorem qa{k t:Nat}{v:RV}(ht:t<8)(g:v.good):(gP k t v).good:=by
 have g':=g;obtain⟨g1,g2,g3,g4,g5,g6,g7,g8⟩:=g
 match k with
 |0=>exact g'
 |1=>exact gN g'
 |2=>exact gN g'
 |_+3=>
  have:after (after (dD t) v.t.toNat) t<8:=nk (nk (q_ ht) ⋯) ht;exact⟨g1,g2,g3,g4,g5,g6,by show(0:Int)<=((_:Nat):Int);omega,by show((_:Nat):Int)<=7;omega⟩
theorem wq{k t:Nat}:oE k t<4:=by
 match k with
 |0=>show 0<4;decide
 |1=>show(if _ then 1 else 2)<4;split<;>decide
 |2=>show(if _ then 1 else 2)<4;split<;>decide
 |_+3=>show 3<4;decide
theorem BC{R:RC}{H:Hp}{k a}{v:RV}(rk:lD K R)(hk:k=1\/k=2)(r:cL R H k a v):∃C dx l,H a=some (.ins C dx (wB v.n v.c l v.o1 v.o2))/\kS K C/\aq K C "name"/\aq K C "cost"/\aq K C "part_names"/\aq K C "one"/\aq K C "other":=by
 obtain⟨dx,l,h,_⟩:=r;rcases hk with rfl | rfl
 ·exact⟨_,dx,l,h,rk.i1.cl,rk.a1⟩
 ·exact⟨_,dx,l,h,rk.i2.cl,rk.a2⟩
noncomputable abbrev gy:Stmt:=kD 29
inductive fj(R:RC)(vs:List V)(H:Hp)(Q:VK)(_E:XK):Prop
 |mk (a:Addr) (k:Nat) (v:RV) (sb:Bool) (t:Nat) (_:vs=[.ref a,.bl sb,.int (t:Int)]) (_:t<8) (_:(k=1\/k=2)) (_:cL R H k a v) (_:v.good) (_:∀b H',cL R H' (if(bJ sb t).1=true then 1 else 2) b (kr (bJ sb t).2 v)->az H H'->Q (.ref b) H')
theorem oq:ay ["rule","side_by_side","t","swapped","step","one","other"] ["rule","side_by_side","t"] (ak gy):=by walk_at "c"
theorem nc{R:RC}{f zda:Addr}{fd:Ie}(F:cY K "turned_pair" "turned_pair" gy f fd)(nb:NB mg)(rk:lD K R)(zAa:iF P w K mg base (b7 P w) 4 "BesideRule" R.cb ["self","name","cost","one","other"] (bU K zda))(zHa:iF P w K mg base (b7 P w) 4 "AboveRule" R.ca ["self","name","cost","one","other"] (bU K zda)):aZ P w K mg base bF 6 f fd ["rule","side_by_side","t"] (fj R):=by
 have sc:=oq;walk_at "f"
 ·obtain⟨a,k,v,sb,t,rfl,_⟩:=h;rfl
 ·obtain⟨a,k,v,sb,t,rfl,ht,hk,ra,g,q⟩:=h
  have hu:=hr.units;obtain⟨C,dx,l,ha,hcl,n1,n2,n3,n4,n5⟩:=BC rk hk ra;refine⟨_,(ae (aB (i:=3) sc.nd rfl (Or.inl rfl) (nh (al 1) (qJ (hV (aW.m0 BV) (al 2) ah (aI _)))))
   (ae (bD PassesOwn.never rfl (dq rfl nb.range (aa (ar (aW.m1 aQ) (al 2) ah) ad)) (av (i:=4) sc.nd rfl (Or.inl rfl))
   (ae (bj (kF (iy (al 1) λ_=>rfl))
   (ai (aB (i:=3) sc.nd rfl (Or.inl rfl) (vU (al 3))))
   aJ)
   (ai (aB (i:=1) sc.nd rfl (Or.inl rfl) (vU (al 1))))))
   (ae (aB (i:=5) sc.nd rfl (Or.inl rfl) (iO (iy (al 3) λ_=>rfl) (aV (al 0) rfl) (aV (al 0) rfl)))
   (ae (aB (i:=6) sc.nd rfl (Or.inl rfl) (iO (iy (al 3) λ_=>rfl) (aV (al 0) rfl) (aV (al 0) rfl)))
   (ae (bj (iy (al 1) λ_=>rfl)
   (ai (aG (dB (CX:=b7 P w) zAa (hr.mono nofun) rfl bf (aa (aV (al 0) rfl) (aa (aV (al 0) rfl) (aa (al 5) (aa (al 6) ad)))))))
   aJ)
   (ai (aG (dB (CX:=b7 P w) zHa (hr.mono nofun) rfl bf (aa (aV (al 0) rfl) (aa (aV (al 0) rfl) (aa (al 5) (aa (al 6) ad)))))))))))),?_⟩
  walk_at "n";have h1':N1 [some (V.ref a),some (V.bl sb),some (V.int (t:Int)),some (V.bl (sb&&decide (4<=t))),none,none,none] H:=by
   refine h1 _ _ ?_;clear h1;walk_at "o";have et:((t:Int)%4).toNat=t%4:=by omega
   refine⟨⋯,⋯,?_⟩;rw[et];refine cH (lo:=0) (n:=t%4) (λi σ H'=>H'=H/\∃x,σ=[some (V.ref a),some (V.bl (qT i (sb,sb&&decide (4<=t))).1),some (V.int (t:Int)),some (V.bl (qT i (sb,sb&&decide (4<=t))).2),x,none,none]) ⟨rfl,_,rfl⟩ ?_ ?_
   ·rintro i σ H' hi ⟨rfl,x,rfl⟩
    rw[wy];generalize qT i (sb,sb&&decide (4<=t))=z;walk_at "wp";obtain⟨z1,z2⟩:=z;cases z1<;>cases z2<;>exact⟨rfl,rfl⟩
   ·rintro σ H' ⟨rfl,x,rfl⟩
    refine h2 _ _ ?_;clear h2;have hp:qT (t%4) (sb,sb&&decide (4<=t))=bJ sb t:=rfl;rw[hp];generalize bJ sb t=z at q ⊢;walk_at "wp";obtain⟨z1,z2⟩:=z
    match z1,z2,q with
    |true,true,q=>
     refine⟨C,dx,_,ha,hcl,n5,_,rfl,C,dx,_,ha,hcl,n4,_,rfl,C,dx,_,ha,hcl,n1,_,rfl,C,dx,_,ha,hcl,n2,_,rfl,λx dx2 hx hdx hne=>?_⟩;exact⟨x,R.cb,dx2,_,_,_,_,rfl,ac,rk.i1.cl,rk.a1,by have:=g.small.n;omega,by have:=g.small.o2;omega,by have:=g.small.o1;omega,λok pl H' sx hpl hl' ha'=>⟨rfl,q x H' ⟨dx2,pl,ha',hl'⟩ (cy hx hdx sx)⟩,λnok=>absurd ((gN (sw:=true) g).ok 1) nok⟩
    |true,false,q=>
     refine⟨C,dx,_,ha,hcl,n4,_,rfl,C,dx,_,ha,hcl,n5,_,rfl,C,dx,_,ha,hcl,n1,_,rfl,C,dx,_,ha,hcl,n2,_,rfl,λx dx2 hx hdx hne=>?_⟩;exact⟨x,R.cb,dx2,_,_,_,_,rfl,ac,rk.i1.cl,rk.a1,by have:=g.small.n;omega,by have:=g.small.o1;omega,by have:=g.small.o2;omega,λok pl H' sx hpl hl' ha'=>⟨rfl,q x H' ⟨dx2,pl,ha',hl'⟩ (cy hx hdx sx)⟩,λnok=>absurd ((gN (sw:=false) g).ok 1) nok⟩
    |false,true,q=>
     refine⟨C,dx,_,ha,hcl,n5,_,rfl,C,dx,_,ha,hcl,n4,_,rfl,C,dx,_,ha,hcl,n1,_,rfl,C,dx,_,ha,hcl,n2,_,rfl,λx dx2 hx hdx hne=>?_⟩;exact⟨x,R.ca,dx2,_,_,_,_,rfl,ac,rk.i2.cl,rk.a2,by have:=g.small.n;omega,by have:=g.small.o2;omega,by have:=g.small.o1;omega,λok pl H' sx hpl hl' ha'=>⟨rfl,q x H' ⟨dx2,pl,ha',hl'⟩ (cy hx hdx sx)⟩,λnok=>absurd ((gN (sw:=true) g).ok 2) nok⟩
    |false,false,q=>
     refine⟨C,dx,_,ha,hcl,n4,_,rfl,C,dx,_,ha,hcl,n5,_,rfl,C,dx,_,ha,hcl,n1,_,rfl,C,dx,_,ha,hcl,n2,_,rfl,λx dx2 hx hdx hne=>?_⟩;exact⟨x,R.ca,dx2,_,_,_,_,rfl,ac,rk.i2.cl,rk.a2,by have:=g.small.n;omega,by have:=g.small.o1;omega,by have:=g.small.o2;omega,λok pl H' sx hpl hl' ha'=>⟨rfl,q x H' ⟨dx2,pl,ha',hl'⟩ (cy hx hdx sx)⟩,λnok=>absurd ((gN (sw:=false) g).ok 2) nok⟩
  cases sb with
  |true=>rw[if_pos rfl,show decide ((4:Int)<=(t:Int))=(true&&decide (4<=t)) by rw[Bool.true_and];exact decide_eq_decide.mpr ⋯];exact h1'
  |false=>rw[if_neg nofun];exact h1'
inductive iB(R:RC)(k:Nat)(vs:List V)(H:Hp)(Q:VK)(_E:XK):Prop
 |mk (a:Addr) (v:RV) (t:Nat) (_:vs=[.ref a,.int (t:Int)]) (_:t<8) (_:cL R H k a v) (_:v.good) (_:∀b H',cL R H' (oE k t) b (gP k t v)->az H H'->Q (.ref b) H')
noncomputable abbrev eX:Stmt:=eW 25 3
theorem vC:ay ["self","t"] ["self","t"] (ak eX):=by walk_at "c"
theorem vH{R:RC}{f zda:Addr}{fd:Ie}(F:cY K "turned_whole" "CellRule.turned_whole" eX f fd)(rk:lD K R)(zNa:iF P w K mg base (b7 P w) 4 "CellRule" R.cc ["self","name","cost","sign"] (eQ K zda)):aZ P w K mg base bF 6 f fd ["self","t"] (iB R 0):=by
 have sc:=vC;walk_at "f"
 ·obtain⟨a,v,t,rfl,_⟩:=h;rfl
 ·obtain⟨a,v,t,rfl,ht,⟨dx,l,ha,hl⟩,g,q⟩:=h
  refine⟨_,(ai (aG (dB (CX:=b7 P w) zNa (hr.mono nofun) rfl bf (aa (aV (al 0) rfl) (aa (aV (al 0) rfl) (aa (aV (al 0) rfl) ad)))))),?_⟩;walk_at "wp";refine⟨R.cc,dx,_,ha,rk.i0.cl,rk.a0.1,_,rfl,R.cc,dx,_,ha,rk.i0.cl,rk.a0.2.1,_,rfl,R.cc,dx,_,ha,rk.i0.cl,rk.a0.2.2.2,_,rfl,λx dx2 hx hdx hne=>?_⟩;exact⟨x,R.cc,dx2,v.n,v.sg,v.c,rfl,ac,rk.i0.cl,rk.a0,by have:=g.small.n;omega,by have:=g.small.sg;omega,λok pl H' sx hpl hl' ha'=>⟨rfl,q x H' ⟨dx2,pl,ha',hl'⟩ (cy hx hdx sx)⟩,λnok=>absurd (g.ok 0) nok⟩
noncomputable abbrev dm:Stmt:=eW 26 3
theorem rA:ay ["self","t"] ["self","t"] (ak dm):=by walk_at "c"
theorem qo{R:RC}{f:Addr}{fd:Ie}(F:cY K "turned_whole" "BesideRule.turned_whole" dm f fd)(zBa:fF P w K mg base bF 6 "turned_pair" ["rule","side_by_side","t"] (fj R)):aZ P w K mg base bF 7 f fd ["self","t"] (iB R 1):=by
 have sc:=rA;walk_at "f"
 ·obtain⟨a,v,t,rfl,_⟩:=h;rfl
 ·obtain⟨a,v,t,rfl,ht,ra,g,q⟩:=h
  refine⟨_,(ai (aG (aK zBa (hr.mono nofun) rfl bg (aa (al 0) (aa tV (aa (al 1) ad)))))),?_⟩;walk_at "wp";exact⟨a,1,v,true,t,rfl,ht,.inl rfl,ra,g,q⟩
noncomputable abbrev dG:Stmt:=eW 27 3
theorem sV:ay ["self","t"] ["self","t"] (ak dG):=by walk_at "c"
theorem ul{R:RC}{f:Addr}{fd:Ie}(F:cY K "turned_whole" "AboveRule.turned_whole" dG f fd)(zBa:fF P w K mg base bF 6 "turned_pair" ["rule","side_by_side","t"] (fj R)):aZ P w K mg base bF 7 f fd ["self","t"] (iB R 2):=by
 have sc:=sV;walk_at "f"
 ·obtain⟨a,v,t,rfl,_⟩:=h;rfl
 ·obtain⟨a,v,t,rfl,ht,ra,g,q⟩:=h
  refine⟨_,(ai (aG (aK zBa (hr.mono nofun) rfl bg (aa (al 0) (aa tV (aa (al 1) ad)))))),?_⟩;walk_at "wp";exact⟨a,2,v,false,t,rfl,ht,.inr rfl,ra,g,q⟩
noncomputable abbrev eZ:Stmt:=eW 28 3
theorem vB:ay ["self","t"] ["self","t"] (ak eZ):=by walk_at "c"
theorem uQ{R:RC}{f zda:Addr}{fd:Ie}(F:cY K "turned_whole" "TurnRule.turned_whole" eZ f fd)(rk:lD K R)(yaz:fF P w K mg base bF 1 "after" ["t","u"] tE)(yaL:fF P w K mg base bF 1 "back" ["t"] wA)(zOa:iF P w K mg base (b7 P w) 4 "TurnRule" R.ct ["self","name","cost","part","turning"] (eS K zda)):aZ P w K mg base bF 6 f fd ["self","t"] (iB R 3):=by
 have sc:=vB;walk_at "f"
 ·obtain⟨a,v,t,rfl,_⟩:=h;rfl
 ·obtain⟨a,v,t,rfl,ht,⟨dx,l,ha,hl⟩,g,q⟩:=h
  have t0:=g.t0;have t7:=g.t7;refine⟨_,(ai (aG (dB (CX:=b7 P w) zOa (hr.mono nofun) rfl bf (aa (aV (al 0) rfl) (aa (aV (al 0) rfl) (aa (aV (al 0) rfl) (aa (aK yaz (hr.mono nofun) rfl bg (aa (aK yaz (hr.mono nofun) rfl bg (aa (aK yaL (hr.mono nofun) rfl bg (aa (al 1) ad)) (aa (aV (al 0) rfl) ad))) (aa (al 1) ad))) ad))))))),?_⟩;walk_at "wp";refine⟨R.ct,dx,_,ha,rk.i3.cl,rk.a3.1,_,rfl,R.ct,dx,_,ha,rk.i3.cl,rk.a3.2.1,_,rfl,R.ct,dx,_,ha,rk.i3.cl,rk.a3.2.2.2.1,_,rfl,t,rfl,ht,R.ct,dx,_,ha,rk.i3.cl,rk.a3.2.2.2.2,_,rfl,dD t,v.t.toNat,by rw[HR t0],q_ ht,⋯,after (dD t) v.t.toNat,t,rfl,nk (q_ ht) ⋯,ht,λx dx2 hx hdx hne=>?_⟩;exact⟨x,R.ct,dx2,v.n,v.o1,v.c,_,rfl,ac,rk.i3.cl,rk.a3,by have:=g.small.n;omega,by have:=g.small.o1;omega,λok pl H' sx hpl hl' ha'=>⟨rfl,q x H' ⟨dx2,pl,ha',hl'⟩ (cy hx hdx sx)⟩,λnok=>absurd ((qa (k:=3) ht g).ok 3) nok⟩
noncomputable def B3(R:RC):List (Addr×Sp):=[(R.cc,iB R 0),(R.cb,iB R 1),(R.ca,iB R 2),(R.ct,iB R 3)]
theorem Ci{R:RC}{H:Hp}{k a t:Nat}{v:RV}{Q:VK}{E:XK}(hk:k<4)(ht:t<8)(r:cL R H k a v)(g:v.good)(q:∀b H',cL R H' (oE k t) b (gP k t v)->az H H'->Q (.ref b) H') :
  ∃o∈B3 R,∃dx fs,H a=some (.ins o.1 dx fs)/\fs.lookup ("turned_whole":Str)=none/\o.2 [.ref a,.int (t:Int)] H Q E:=by
 obtain⟨dx,l,h1,h2⟩:=id r;rcases im hk with rfl | rfl | rfl | rfl
 ·exact⟨(R.cc,iB R 0),by simp[B3],dx,_,h1,rfl,a,v,t,rfl,ht,r,g,q⟩
 ·exact⟨(R.cb,iB R 1),by simp[B3],dx,_,h1,rfl,a,v,t,rfl,ht,r,g,q⟩
 ·exact⟨(R.ca,iB R 2),by simp[B3],dx,_,h1,rfl,a,v,t,rfl,ht,r,g,q⟩
 ·exact⟨(R.ct,iB R 3),by simp[B3],dx,_,h1,rfl,a,v,t,rfl,ht,r,g,q⟩
noncomputable abbrev cU:Stmt:=eW 39 1
inductive gl(R:RC)(C:Addr)(vs:List V)(H:Hp)(Q:VK)(_E:XK):Prop
 |mk (a dx:Addr) (sg st:HY) (as:Ib) (rs:Yaa) (_:vs=[.ref a]) (_:dX R H C dx a sg st as rs) (_:∀l H',H l=none->H' l=some (.lst (as.map V.ref))->az H H'->Q (.ref l) H')
theorem oN:ay ["self"] ["self"] (ak cU):=by walk_at "c"
theorem pi{R:RC}{f C:Addr}{fd:Ie}(F:cY K "rules" "Grammar.rules" cU f fd)(nb:NB mg)(cl:kS K C)(na:aq K C "signs"/\aq K C "start"/\aq K C "kept"/\aq K C "numbers"):aZ P w K mg base bF 1 f fd ["self"] (gl R C):=by
 have sc:=oN;walk_at "f"
 ·obtain⟨a,dx,sg,st,as,rs,rfl,_⟩:=h;rfl
 ·obtain⟨a,dx,sg,st,as,rs,rfl,g,q⟩:=h
  obtain⟨lk,pn,t,ha,hk,hrs,hN,hm⟩:=id g;have hu:=hr.units;refine⟨_,(ai (aG (cw cg rfl nb.list fW (aa (aV (al 0) rfl) ad)))),?_⟩;walk_at "wp";exact⟨C,dx,_,ha,cl,na.2.2.1,_,rfl,lk,rfl,_,.inl (aN.of hk),λl' hl'=>q l' _ hl' ac (af hl')⟩
noncomputable def kO(t:Nat)(rs:Yaa):Yaa:=rs.map λr=>(oE r.1 t,gP r.1 t r.2)
theorem yh(k t:Nat)(v:RV):(gP k t v).n=v.n/\(gP k t v).c=v.c/\(gP k t v).sg=v.sg/\(((gP k t v).o1=v.o1/\(gP k t v).o2=v.o2)\/((gP k t v).o1=v.o2/\(gP k t v).o2=v.o1)):=by
 have sw:∀b,(kr b v).n=v.n/\(kr b v).c=v.c/\(kr b v).sg=v.sg/\(((kr b v).o1=v.o1/\(kr b v).o2=v.o2)\/((kr b v).o1=v.o2/\(kr b v).o2=v.o1)):=λb=>by
  cases b
  ·exact⟨rfl,rfl,rfl,.inl ⟨rfl,rfl⟩⟩
  ·exact⟨rfl,rfl,rfl,.inr ⟨rfl,rfl⟩⟩
 match k with
 |0=>exact⟨rfl,rfl,rfl,.inl ⟨rfl,rfl⟩⟩
 |1=>exact sw _
 |2=>exact sw _
 |_+3=>exact⟨rfl,rfl,rfl,.inl ⟨rfl,rfl⟩⟩
theorem tY{p:bz}{sg:HY}{t:Nat}{rs:Yaa}(ht:t<8)(h:∀r∈rs,fo p sg r):∀r∈kO t rs,fo p sg r:=by
 intro r hr;obtain⟨q,hq,rfl⟩:=HJ.mp hr;have ro:=h q hq;have g:=qa (k:=q.1) ht ro.good.good;obtain⟨e1,_,e3,e4⟩:=yh q.1 t q.2;have ha:=ro.o1;have hb:=ro.o2;have hc:=ro.n;refine⟨⟨wq,g,g.small⟩,?_,?_,?_,?_⟩
 ·show(gP q.1 t q.2).n∈p;rw[e1];exact hc
 ·show(gP q.1 t q.2).o1∈p
  rcases e4 with⟨e,_⟩ | ⟨e,_⟩
  ·rw[e];exact ha
  ·rw[e];exact hb
 ·show(gP q.1 t q.2).o2∈p
  rcases e4 with⟨_,e⟩ | ⟨_,e⟩
  ·rw[e];exact hb
  ·rw[e];exact ha
 ·obtain⟨c,hc,e⟩:=ro.sg
  exact⟨c,hc,e3.trans e⟩
theorem kU(t:Nat)(rs:Yaa):(kO t rs).length=rs.length:=G7 ..
theorem bo.one'{R:RC}{H:Hp}{b:Addr}{r:Nat×RV}(h:cL R H r.1 b r.2):bo R H [b] [r]:=⟨rfl,λi a q e1 e2=>by
 match i,e1,e2 with
 |0,e1,e2=>cases e1;cases e2;exact h⟩
theorem bo.snoc{R:RC}{H:Hp}{as:Ib}{rs:Yaa}{b:Addr}{r:Nat×RV}(h:bo R H as rs)(hb:cL R H r.1 b r.2):bo R H (as++[b]) (rs++[r]):=by
 refine⟨by rw[Hq,Hq,h.1];rfl,λi a q e1 e2=>?_⟩
 by_cases hi:i<as.length
 ·rw[Ho hi]at e1
  rw[Ho (by rw[<- h.1];exact hi)]at e2;exact h.2 i a q e1 e2
 ·rw[Hn ⋯]at e1
  rw[Hn (by rw[<- h.1];omega),<- h.1]at e2;exact(bo.one' hb).2 _ a q e1 e2
theorem AL{R:RC}{H:Hp}{l:Addr}{as:Ib}{rs:Yaa}{t:Nat}{Q:List V->Hp->Prop}(ht:t<8)(hl:H l=some (.lst (as.map V.ref)))(hA:bo R H as rs)(hg:∀r∈rs,dZ r)(hn:rs.length<=100)(q:∀(bs:Ib) H',az H H'->bo R H' bs (kO t rs)->Q (bs.map V.ref) H') :
  gZ (zz K l) (j_ 0) uq (oG (Str.ofString "turned_whole") (B3 R) E0 (uJ 0) (j' (uJ 1) oZ)) [none,some (V.int (t:Int))] H Q:=by
 obtain⟨hal,hat⟩:=hA;refine lO (xs:=as.map V.ref) (λi acc σ H'=>az H H'/\(∃bs:List Addr,acc=bs.map V.ref/\bo R H' bs (kO t (rs.take i)))/\i<=as.length/\∃x,σ=[x,some (V.int (t:Int))]) ⟨az.refl _,⟨[],rfl,rfl,λi a r e=>by simp at e⟩,Hs _,_,rfl⟩ ?_ ?_ ?_ ?_ ?_
 ·rintro i acc σ H' ⟨_,⟨bs,rfl,h,_⟩,hi,_⟩
  rw[G7,h,kU,HF];exact bb ⋯
 ·rintro i acc σ H' ⟨_,_,h,_⟩
  rw[G7];exact h
 ·rintro i acc σ H' ⟨sm,_⟩
  exact aN.of (sm _ _ hl)
 ·rintro i x acc σ H' hx ⟨sm,⟨bs,rfl,hB⟩,hi,y,rfl⟩
  have hlt:i<as.length:=by have:=(G5.mp hx).1;rwa [G7]at this
  rw[G9,G4 hlt]at hx;cases hx;have hlr:i<rs.length:=by omega
  have hrr:rs[i]?=some rs[i]:=G4 hlr;have rr:=(hat i as[i] rs[i] (G4 hlt) hrr).up sm;have gd:=hg _ (Hc hlr);walk_at "wp";refine Ci gd.k4 ht rr gd.good λb H2 hb s2=>⟨sm.trans s2,⟨bs++[b],by rw[Hf];rfl,?_⟩,hlt⟩;rw[List.take_add_one,hrr];unfold kO;rw[Hf];exact(hB.up s2).snoc (r:=(oE rs[i].1 t,gP rs[i].1 t rs[i].2)) hb
 ·rintro acc σ H' ⟨sm,⟨bs,rfl,hB⟩,_⟩
  rw[G7,hal,HE]at hB;exact q bs H' sm hB
noncomputable abbrev dH:Stmt:=kD 44
inductive fY(R:RC)(CG:Addr)(vs:List V)(H:Hp)(Q:VK)(_E:XK):Prop
 |mk (a dx:Addr) (sg st:HY) (as:Ib) (rs:Yaa) (t:Nat) (_:vs=[.ref a,.int (t:Int)]) (_:t<8) (_:dX R H CG dx a sg st as rs) (_:rs.length<=100) (_:(∀r∈rs,dZ r)) (_:sg.length<=1000) (_:st.length<=1000) (_:fK sg st (kO t rs)=none) (_:∀b db as' H',dX R H' CG db b sg st as' (kO t rs)->az H H'->Q (.ref b) H')
theorem kL:ay ["grammar","t"] ["grammar","t"] (ak dH):=by walk_at "c"
theorem lh{R:RC}{f CG zca:Addr}{fd:Ie}(F:cY K "turned_grammar" "turned_grammar" dH f fd)(nb:NB mg)(gk:Ee K CG)(zsb:o8 P w K mg base bF 7 "turned_whole" (B3 R))(yaP:eM P w K mg base bF 1 CG "rules" ["self"] (gl R CG))
  (zYa:iF P w K mg base (b7 P w) 4 "Grammar" CG ["self","signs","start","rules"] (eV K R zca)):aZ P w K mg base bF 8 f fd ["grammar","t"] (fY R CG):=by
 have sc:=kL;walk_at "f"
 ·obtain⟨a,dx,sg,st,as,rs,t,rfl,_⟩:=h;rfl
 ·obtain⟨a,dx,sg,st,as,rs,t,rfl,ht,g,hn,hg,hsg,hst,g0,q⟩:=h
  have hu:=hr.units;obtain⟨lk,pn,tt,ha,_,hA,_⟩:=id g;refine⟨_,(ai (aG (dB (CX:=b7 P w) zYa (hr.mono nofun) rfl bf (aa (aV (pv 0) rfl) (aa (aV (pv 0) rfl) (aa (du ["rule"] [1] rfl (bv.of (by kernel_rfl)) (by kernel_rfl) (bX (yA yaP (hr.mono nofun) bg (pv 0)))
    (λ_ _ _ _=>(av (i:=0) (by show(["rule","t"]:List Str).Nodup;decide +kernel) rfl (Or.inl rfl))) (λ_ _ _ _=>cD) (λ_ _ _ _=>(wI zsb (hr.mono nofun) bg (pv 0) (aa (pv 1) ad)))) ad)))))),?_⟩
  walk_at "wp";refine⟨CG,dx,_,ha,gk.cl.cl,gk.na.1,_,rfl,CG,dx,_,ha,gk.cl.cl,gk.na.2.1,_,rfl,dx,_,ha,rfl,a,dx,sg,st,as,rs,rfl,g,λl1 H1 hl1 hL1 s1=>⟨_,rfl,⟨_,aN.of hL1⟩,?_⟩⟩;refine AL ht hL1 (hA.up s1) hg hn λbs H2 s2 hB kl hkl x dx2 hx hdx hne=>?_;have s4:az H2 (au H2 kl (.lst (bs.map V.ref))):=af hkl;have e4:au H2 kl (.lst (bs.map V.ref)) kl=some (.lst (bs.map V.ref)):=ac;generalize au H2 kl (.lst (bs.map V.ref))=H4 at s4 e4 hx hdx ⊢;have s04:=(s1.trans s2).trans s4;have sm5:az H4 (au (au H4 dx2 (.own x)) x (.ins CG dx2 [])):=(af hdx).trans (af (by rw[ao (Ne.symm hne)];exact hx));refine⟨x,CG,dx2,kl,sg,st,bs,kO t rs,rfl,ac,gk.cl.cl,gk.na,hsg,hst,sm5 _ _ e4,(hB.up s4).up sm5,?_,by rw[kU];exact hn,(λ_ H5 lk pn t sx gA _ _ _=>⟨rfl,?_⟩),λy hy=>nomatch hy.symm.trans g0⟩
  ·intro r hr
   obtain⟨q,hq,rfl⟩:=HJ.mp hr;exact wq
  ·exact q x dx2 _ H5 gA.f (s04.trans λb u e=>sx b u (aA e hx) (sm5 b u e))
theorem qq(n:Nat)(g:Nat->Nat):((List.range n).map g).sum=((List.range n).map λj=>g (n-1-j)).sum:=by
 have e:(List.range n).map (λj=>g (n-1-j))=((List.range n).map g).reverse:=by
  refine List.ext_getElem (by simp) λi h1 h2=>?_;simp at h1;simp[h1]
 rw[e,List.sum_reverse]
noncomputable def S1(F:TR->Nat)(o1 o2:HY)(left:Int)(z:(Nat×Nat)×(Nat×Nat)):Nat:=((iY (fw z.1.1 z.1.2) (left-fw z.2.1 z.2.2+1)).map λf=>F (o1,z.1.1,z.1.2,f)*F (o2,z.2.1,z.2.2,left-f)).sum
theorem dS(F:TR->Nat)(o1 o2:HY)(left:Int)(szs:List ((Nat×Nat)×(Nat×Nat))):((aO o1 o2 szs left).map λps=>aM F ps).sum=(szs.map (S1 F o1 o2 left)).sum:=by
 unfold aO;rw[i9]
 congr 1
 refine List.map_congr_left λz hz=>?_;unfold S1;rw[Hh]
 congr 1
 refine List.map_congr_left λx hx=>?_;show 1*F _*F _=_;rw[Nat.one_mul]
theorem wa(F:TR->Nat)(o1 o2:HY)(left:Int)(a b:Nat×Nat):S1 F o1 o2 left (a,b)=S1 F o2 o1 left (b,a):=by
 unfold S1 iY;rw[Hh,Hh];have en:(left-fw a.1 a.2+1-fw b.1 b.2).toNat=(left-fw b.1 b.2+1-fw a.1 a.2).toNat:=by congr 1;omega
 show((List.range (left-fw b.1 b.2+1-fw a.1 a.2).toNat).map _).sum=((List.range (left-fw a.1 a.2+1-fw b.1 b.2).toNat).map _).sum;rw[en,qq]
 congr 1
 refine List.map_congr_left λj hj=>?_;have hj:=List.mem_range.mp hj;show F (o1,a.1,a.2,fw a.1 a.2+((_-1-j:Nat):Int))*F (o2,b.1,b.2,left-(fw a.1 a.2+((_-1-j:Nat):Int)))=F (o2,b.1,b.2,fw b.1 b.2+(j:Int))*F (o1,a.1,a.2,left-(fw b.1 b.2+(j:Int)));have e1:left-(fw a.1 a.2+(((left-fw b.1 b.2+1-fw a.1 a.2).toNat-1-j:Nat):Int))=fw b.1 b.2+(j:Int):=by omega
 have e2:fw a.1 a.2+(((left-fw b.1 b.2+1-fw a.1 a.2).toNat-1-j:Nat):Int)=left-(fw b.1 b.2+(j:Int)):=by omega
 rw[e1,e2,Nat.mul_comm]
theorem pZ(F:TR->Nat)(o1 o2:HY)(left:Int)(r c:Nat):((bQ r c).map (S1 F o1 o2 left)).sum=((bQ r c).map (S1 F o2 o1 left)).sum:=by
 unfold bQ;rw[Hh,Hh,qq]
 congr 1
 refine List.map_congr_left λj hj=>?_;have hj:=List.mem_range.mp hj;show S1 F o1 o2 left ((r,1+(c-1-1-j)),(r,c-(1+(c-1-1-j))))=S1 F o2 o1 left ((r,1+j),(r,c-(1+j)));rw[wa,show 1+(c-1-1-j)=c-(1+j) by omega,show c-(c-(1+j))=1+j by omega]
theorem pH(F:TR->Nat)(o1 o2:HY)(left:Int)(r c:Nat):((bR r c).map (S1 F o1 o2 left)).sum=((bR r c).map (S1 F o2 o1 left)).sum:=by
 unfold bR;rw[Hh,Hh,qq]
 congr 1
 refine List.map_congr_left λj hj=>?_;have hj:=List.mem_range.mp hj;show S1 F o1 o2 left ((1+(r-1-1-j),c),(r-(1+(r-1-1-j)),c))=S1 F o2 o1 left ((1+j,c),(r-(1+j),c));rw[wa,show 1+(r-1-1-j)=r-(1+j) by omega,show r-(r-(1+j))=1+j by omega]
theorem wH{F G:TR->Nat}(h:∀nm a b k,F (nm,a,b,k)=G (nm,b,a,k))(o1 o2:HY)(left:Int)(a b:Nat×Nat):S1 F o1 o2 left (a,b)=S1 G o1 o2 left ((a.2,a.1),(b.2,b.1)):=by
 unfold S1;simp only;rw[mV a.1,mV b.1]
 congr 1
 refine List.map_congr_left λx hx=>?_;rw[h,h]
theorem yt{F G:TR->Nat}(h:∀nm a b k,F (nm,a,b,k)=G (nm,b,a,k))(o1 o2:HY)(left:Int)(r c:Nat):((bQ r c).map (S1 F o1 o2 left)).sum=((bR c r).map (S1 G o1 o2 left)).sum:=by
 unfold bQ bR;rw[Hh,Hh]
 congr 1
 exact List.map_congr_left λj hj=>wH h o1 o2 left (r,1+j) (r,c-(1+j))
theorem w_{F G:TR->Nat}(h:∀nm a b k,F (nm,a,b,k)=G (nm,b,a,k))(o1 o2:HY)(left:Int)(r c:Nat):((bR r c).map (S1 F o1 o2 left)).sum=((bQ c r).map (S1 G o1 o2 left)).sum:=by
 unfold bQ bR;rw[Hh,Hh]
 congr 1
 exact List.map_congr_left λj hj=>wH h o1 o2 left (1+j,c) (r-(1+j),c)
theorem v6:∀t,t<8->((bJ true t).1=true↔t%2=0)/\((bJ false t).1=true↔t%2=1):=by
 have:∀t:Fin 8,((bJ true t.1).1=true↔t.1%2=0)/\((bJ false t.1).1=true↔t.1%2=1):=by decide +kernel
 exact λt h=>this ⟨t,h⟩
theorem pp:∀t u,t<8->u<8->after (after (dD t) u) t%2=u%2:=by
 have:∀t u:Fin 8,after (after (dD t.1) u.1) t.1%2=u.1%2:=by decide +kernel
 exact λt u h1 h2=>this ⟨t,h1⟩ ⟨u,h2⟩
theorem jy(b:Bool)(v:RV):(kr b v).n=v.n/\(kr b v).c=v.c/\((kr b v).o1=v.o1/\(kr b v).o2=v.o2\/(kr b v).o1=v.o2/\(kr b v).o2=v.o1):=by
 cases b<;>exact⟨rfl,rfl,by simp[kr]⟩
theorem yX(k t:Nat)(v:RV):(gP k t v).n=v.n:=by
 match k with
 |0=>rfl
 |1=>exact(jy _ v).1
 |2=>exact(jy _ v).1
 |k+3=>rfl
theorem tN(nm:HY)(t:Nat)(rs:Yaa):cj nm (kO t rs)=(cj nm rs).map λr=>(oE r.1 t,gP r.1 t r.2):=by
 unfold cj kO;rw[List.filter_map]
 congr 1
 refine List.filter_congr λq hq=>?_;show decide ((gP q.1 t q.2).n=nm)=_;rw[yX]
theorem yW{F G:TR->Nat}{t:Nat}(ht:t<8)(h:∀nm a b k,F (nm,if t%2=1 then b else a,if t%2=1 then a else b,k)=G (nm,a,b,k)){q:Nat×RV}(h4:q.1<4)(h0:0<=q.2.t)(h7:q.2.t<=7)(r c:Nat)(k:Int) :
  ((bP (oE q.1 t,gP q.1 t q.2) (if t%2=1 then c else r) (if t%2=1 then r else c) k).map λps=>aM F ps).sum=((bP q r c k).map λps=>aM G ps).sum:=by
 obtain⟨kd,v⟩:=q;obtain⟨p1,p2⟩:=v6 t ht;have hkd:kd=0\/kd=1\/kd=2\/kd=3:=by simp at h4;omega
 by_cases ho:t%2=1
 ·simp only[if_pos ho]at h ⊢
  have h':∀nm a b k,G (nm,a,b,k)=F (nm,b,a,k):=λnm a b k=>(h nm a b k).symm;rcases hkd with rfl | rfl | rfl | rfl
  ·show((if c=1/\r=1/\k=v.c then[[]] else[]:List (List TR)).map λps=>aM F ps).sum=((if r=1/\c=1/\k=v.c then[[]] else[]:List (List TR)).map λps=>aM G ps).sum
   by_cases e:r=1/\c=1/\k=v.c
   ·rw[if_pos e,if_pos ⟨e.2.1,e.1,e.2.2⟩];rfl
   ·rw[if_neg e,if_neg (λz=>e ⟨z.2.1,z.1,z.2.2⟩)];rfl
  ·have ek:oE 1 t=2:=by show(if(bJ true t).1=true then 1 else 2)=2;rw[if_neg (λz=>by have:=p1.mp z;omega)]
   rw[ek];obtain⟨_,ec,eo⟩:=jy (bJ true t).2 v;show((aO (kr (bJ true t).2 v).o1 (kr (bJ true t).2 v).o2 (bR c r) (k-(kr (bJ true t).2 v).c)).map _).sum=((aO v.o1 v.o2 (bQ r c) (k-v.c)).map _).sum;rw[ec,dS,dS,yt h'];rcases eo with⟨e1,e2⟩ | ⟨e1,e2⟩<;>rw[e1,e2]
   exact pH _ _ _ _ _ _
  ·have ek:oE 2 t=1:=by show(if(bJ false t).1=true then 1 else 2)=1;rw[if_pos (p2.mpr ho)]
   rw[ek];obtain⟨_,ec,eo⟩:=jy (bJ false t).2 v;show((aO (kr (bJ false t).2 v).o1 (kr (bJ false t).2 v).o2 (bQ c r) (k-(kr (bJ false t).2 v).c)).map _).sum=((aO v.o1 v.o2 (bR r c) (k-v.c)).map _).sum;rw[ec,dS,dS,w_ h'];rcases eo with⟨e1,e2⟩ | ⟨e1,e2⟩<;>rw[e1,e2]
   exact pZ _ _ _ _ _ _
  ·have hp:=pp t v.t.toNat ht (by simp at h0 h7;omega)
   have hv:(((after (after (dD t) v.t.toNat) t:Nat):Int)%2=1)↔(v.t%2=1):=by simp at h0;omega
   show 1*F (v.o1,(if((after (after (dD t) v.t.toNat) t:Nat):Int)%2=1 then r else c),(if((after (after (dD t) v.t.toNat) t:Nat):Int)%2=1 then c else r),k-v.c)+0=1*G (v.o1,(if v.t%2=1 then c else r),(if v.t%2=1 then r else c),k-v.c)+0
   by_cases e:v.t%2=1
   ·rw[if_pos e,if_pos e,if_pos (hv.mpr e),if_pos (hv.mpr e),h']
   ·rw[if_neg e,if_neg e,if_neg (λz=>e (hv.mp z)),if_neg (λz=>e (hv.mp z)),h']
 ·simp only[if_neg ho]at h ⊢
  have hFG:F=G:=funext λp=>h p.1 p.2.1 p.2.2.1 p.2.2.2;subst hFG;rcases hkd with rfl | rfl | rfl | rfl
  ·rfl
  ·have ek:oE 1 t=1:=by show(if(bJ true t).1=true then 1 else 2)=1;rw[if_pos (p1.mpr ⋯)]
   rw[ek];obtain⟨_,ec,eo⟩:=jy (bJ true t).2 v;show((aO (kr (bJ true t).2 v).o1 (kr (bJ true t).2 v).o2 (bQ r c) (k-(kr (bJ true t).2 v).c)).map _).sum=((aO v.o1 v.o2 (bQ r c) (k-v.c)).map _).sum;rw[ec,dS,dS];rcases eo with⟨e1,e2⟩ | ⟨e1,e2⟩<;>rw[e1,e2]
   exact pZ _ _ _ _ _ _
  ·have ek:oE 2 t=2:=by show(if(bJ false t).1=true then 1 else 2)=2;rw[if_neg (λz=>ho (p2.mp z))]
   rw[ek];obtain⟨_,ec,eo⟩:=jy (bJ false t).2 v;show((aO (kr (bJ false t).2 v).o1 (kr (bJ false t).2 v).o2 (bR r c) (k-(kr (bJ false t).2 v).c)).map _).sum=((aO v.o1 v.o2 (bR r c) (k-v.c)).map _).sum;rw[ec,dS,dS];rcases eo with⟨e1,e2⟩ | ⟨e1,e2⟩<;>rw[e1,e2]
   exact pH _ _ _ _ _ _
  ·have hp:=pp t v.t.toNat ht (by simp at h0 h7;omega)
   have hv:(((after (after (dD t) v.t.toNat) t:Nat):Int)%2=1)↔(v.t%2=1):=by simp at h0;omega
   show 1*F (v.o1,(if((after (after (dD t) v.t.toNat) t:Nat):Int)%2=1 then c else r),(if((after (after (dD t) v.t.toNat) t:Nat):Int)%2=1 then r else c),k-v.c)+0=1*F (v.o1,(if v.t%2=1 then c else r),(if v.t%2=1 then r else c),k-v.c)+0
   by_cases e:v.t%2=1
   ·rw[if_pos e,if_pos e,if_pos (hv.mpr e),if_pos (hv.mpr e)]
   ·rw[if_neg e,if_neg e,if_neg (λz=>e (hv.mp z)),if_neg (λz=>e (hv.mp z))]
theorem wt{rs:Yaa}(hg:∀r∈rs,r.1<4/\0<=r.2.t/\r.2.t<=7){t:Nat}(ht:t<8):∀(f:Nat) (nm:HY) (r c:Nat) (k:Int),cnt (kO t rs) f (nm,if t%2=1 then c else r,if t%2=1 then r else c,k)=cnt rs f (nm,r,c,k)
 |0,_,_,_,_=>rfl
 |f+1,nm,r,c,k=>by
  have ih:=wt hg ht f;have hw:fw (if t%2=1 then c else r) (if t%2=1 then r else c)=fw r c:=by split;exact mV c r;rfl
  unfold cnt;have hc:((if t%2=1 then c else r)=0\/(if t%2=1 then r else c)=0\/6<(if t%2=1 then c else r)\/6<(if t%2=1 then r else c)\/k<fw (if t%2=1 then c else r) (if t%2=1 then r else c))↔(r=0\/c=0\/6<r\/6<c\/k<fw r c):=by
   rw[hw];split<;>omega
  show(if((if t%2=1 then c else r)=0\/(if t%2=1 then r else c)=0\/6<(if t%2=1 then c else r)\/6<(if t%2=1 then r else c)\/k<fw (if t%2=1 then c else r) (if t%2=1 then r else c)) then 0 else _)=(if(r=0\/c=0\/6<r\/6<c\/k<fw r c) then 0 else _)
  by_cases e:r=0\/c=0\/6<r\/6<c\/k<fw r c
  ·rw[if_pos e,if_pos (hc.mpr e)]
  ·rw[if_neg e,if_neg (λz=>e (hc.mp z))]
   show((cj nm (kO t rs)).map _).sum=((cj nm rs).map _).sum;rw[tN,Hh]
   congr 1
   refine List.map_congr_left λq hq=>?_;obtain⟨h4,h0,h7⟩:=hg q (fX hq).1;exact yW ht ih h4 h0 h7 r c k
theorem wL(rs:Yaa):∀(f:Nat) (p:TR),cnt rs.reverse f p=cnt rs f p
 |0,_=>rfl
 |f+1,p=>by
  have ih:cnt rs.reverse f=cnt rs f:=funext λp=>wL rs f p;unfold cnt;rw[ih];have e:cj p.1 rs.reverse=(cj p.1 rs).reverse:=by unfold cj;rw[List.filter_reverse]
  rw[e,List.map_reverse,List.sum_reverse]
structure mq(r' r:Nat×RV):Prop where
 k:r'.1=r.1
 sg:r.1=0->r'.2.sg=r.2.sg
 o1:r.1≠0->r'.2.o1=r.2.o1
 o2:r.1=1\/r.1=2->r'.2.o2=r.2.o2
 t:r.1=3->r'.2.t=r.2.t
theorem mq.rfl'(r:Nat×RV):mq r r:=⟨rfl,λ_=>rfl,λ_=>rfl,λ_=>rfl,λ_=>rfl⟩
noncomputable def cN(r:Nat×RV):List V:=match r.1 with
 |0=>[.int 0,.str (tx r.2.sg),.str ""]
 |1=>[.int 1,.str (tx r.2.o1),.str (tx r.2.o2)]
 |2=>[.int 2,.str (tx r.2.o1),.str (tx r.2.o2)]
 |_=>[.int 3,.str (tx r.2.o1),.int r.2.t]
theorem pE(r:Nat×RV):l8 (fh r) (some 2) none=cN r:=by
 obtain⟨k,v⟩:=r
 match k with
 |0=>rfl
 |1=>rfl
 |2=>rfl
 |k+3=>rfl
theorem nq(r:Nat×RV):(cN r).all ur=true:=by
 obtain⟨k,v⟩:=r
 match k with
 |0=>rfl
 |1=>rfl
 |2=>rfl
 |k+3=>rfl
theorem sF(r:Nat×RV):¬ (HT.sIx (fh r).length 0 (some 2)=0/\HT.sIx (fh r).length (fh r).length none=(fh r).length):=by
 obtain⟨k,v⟩:=r
 match k with
 |0=>exact λh=>by cases h.1
 |1=>exact λh=>by cases h.1
 |2=>exact λh=>by cases h.1
 |k+3=>exact λh=>by cases h.1
theorem jA{a b:Str}(h:uL (.str a) (.str b)=true):a=b:=by
 have h':(a==b)=true:=h;exact eq_of_beq h'
theorem wN{a b:Int}(h:uL (.int a) (.int b)=true):a=b:=by
 have h':(a==b)=true:=h;exact eq_of_beq h'
theorem fu{x y z x' y' z':V}(h:iV [x,y,z] [x',y',z']=true):uL x x'=true/\uL y y'=true/\uL z z'=true:=by
 have h':(([0,1,2]:List Nat).all (λj=>match([x,y,z]:List V)[j]?,([x',y',z']:List V)[j]? with | some x,some y=>uL x y | _,_=>true)&&true)=true:=h
 simpa using h'
theorem ud(r:Nat×RV)(h4:r.1<4):∃y z,cN r=[.int (r.1:Int),y,z]:=by
 obtain⟨k,v⟩:=r;rcases im h4 with h | h | h | h<;>(simp only at h;subst h;exact⟨_,_,rfl⟩)
theorem zP{r' r:Nat×RV}(h4':r'.1<4)(h4:r.1<4)(he:iV (cN r') (cN r)=true):mq r' r:=by
 have hk:r'.1=r.1:=by
  obtain⟨y,z,e⟩:=ud r h4;obtain⟨y',z',e'⟩:=ud r' h4';rw[e,e']at he;have:=wN (fu he).1;omega
 obtain⟨k',v'⟩:=r';obtain⟨k,v⟩:=r;have e:k'=k:=hk;subst e;rcases im h4 with h | h | h | h<;>(simp only at h;subst h)
 ·have:=fu (show iV [.int 0,.str (tx v'.sg),.str ""] [.int 0,.str (tx v.sg),.str ""]=true from he)
  exact⟨rfl,λ_=>gE (jA this.2.1),λh=>absurd rfl h,λh=>(by rcases h with h | h<;>cases h),λh=>(by cases h)⟩
 ·have:=fu (show iV [.int 1,.str (tx v'.o1),.str (tx v'.o2)] [.int 1,.str (tx v.o1),.str (tx v.o2)]=true from he)
  exact⟨rfl,λh=>(by cases h),λ_=>gE (jA this.2.1),λ_=>gE (jA this.2.2),λh=>(by cases h)⟩
 ·have:=fu (show iV [.int 2,.str (tx v'.o1),.str (tx v'.o2)] [.int 2,.str (tx v.o1),.str (tx v.o2)]=true from he)
  exact⟨rfl,λh=>(by cases h),λ_=>gE (jA this.2.1),λ_=>gE (jA this.2.2),λh=>(by cases h)⟩
 ·have:=fu (show iV [.int 3,.str (tx v'.o1),.int v'.t] [.int 3,.str (tx v.o1),.int v.t]=true from he)
  exact⟨rfl,λh=>(by cases h),λ_=>gE (jA this.2.1),λh=>(by rcases h with h | h<;>cases h),λ_=>wN this.2.2⟩
structure SI where
 t:bI
 nm:List Nat
 p:bz
 c:Int
structure FI where
 a:Addr
 v:V
 lp:Addr
 x:SI
def FI.at(z:FI)(H:Hp):Prop:=H z.a=some (.tup [z.v,.str (tx z.x.nm),.ref z.lp,.int z.x.c])/\cO H z.x.t.d z.v/\H z.lp=some (.lst (aH z.x.p))/\z.x.p≠[]
theorem FI.at.up{z:FI}{H H':Hp}(h:z.at H)(s:az H H'):z.at H':=⟨s _ _ h.1,h.2.1.up (v7.of s) _,s _ _ h.2.2.1,h.2.2.2⟩
def dR(l:Addr)(H H':Hp):Prop:=∀y u,y≠l->H y=some u->H' y=some u
theorem dR.of{l:Addr}{H H':Hp}(s:az H H'):dR l H H':=λy u _ e=>s y u e
theorem dR.trans{l:Addr}{H H1 H2:Hp}(a:dR l H H1)(b:dR l H1 H2):dR l H H2:=λy u n e=>b y u n (a y u n e)
theorem dR.put{l:Addr}{H:Hp}{o:HO}:dR l H (au H l o):=λy u n e=>by rw[ao n];exact e
theorem dR.tups{l:Addr}{H H':Hp}(s:dR l H H'){as:Ib}(hl:H l=some (.lst (as.map V.ref))):v7 H H':=λb xs h=>s b _ (λz=>by rw[z,hl]at h;cases h) h
theorem FI.at.keep{z:FI}{l:Addr}{H H':Hp}{as:Ib}(h:z.at H)(hl:H l=some (.lst (as.map V.ref)))(s:dR l H H'):z.at H':=
 ⟨s.tups hl _ _ h.1,h.2.1.up (s.tups hl) _,s _ _ (y_ hl h.2.2.1 h.2.2.2) h.2.2.1,h.2.2.2⟩
structure zW(rs:Yaa)(p:bz)(lim:Int)(x:SI):Prop where
 sd:∃r c,Sd rs x.t (x.nm,r,c,x.c) x.p
 nm:x.nm∈p
 le:x.c<=lim
theorem Sd.more{rs:Yaa}(r:Nat×RV){t:bI}{p:TR}{pc:bz}(h:Sd rs t p pc):Sd (rs++[r]) t p pc:=by
 have up:∀{n:Nat} {x:Nat×RV},rs[n]?=some x->(rs++[r])[n]?=some x:=fun{n x} e=>by rw[Ho (G5.mp e).1];exact e
 induction h with
 |cell e=>exact .cell (up e)
 |turn e _ ih=>exact .turn (up e) ih
 |beside e _ _ m ih1 ih2=>exact .beside (up e) ih1 ih2 m
 |above e _ _ m ih1 ih2=>exact .above (up e) ih1 ih2 m
inductive Nx(r:Nat×RV):List SI->bz->Prop
 |cell:r.1=0->Nx r [] [r.2.sg]
 |turn {x:SI}:r.1=3->x.nm=r.2.o1->Nx r [x] (turned x.p r.2.t.toNat)
 |pair {x y:SI} {pc:bz}:(r.1=1\/r.1=2)->x.nm=r.2.o1->y.nm=r.2.o2->fS r.1 r.2 [x.p,y.p]=some pc->Nx r [x,y] pc
theorem Nx.sd{rs:Yaa}(hg:∀r∈rs,dZ r){n:Nat}{r r':Nat×RV}{ys:List SI}{pc:bz}(h:Nx r ys pc)(e:rs[n]?=some r')(as:mq r' r)(hy:∀y∈ys,∃a c,Sd rs y.t (y.nm,a,c,y.c) y.p) :
  ∃a c,Sd rs (zV (n:Int) (ys.map SI.t)) (r'.2.n,a,c,r'.2.c+(ys.map SI.c).sum) pc:=by
 obtain⟨k',v'⟩:=r';obtain⟨k,v⟩:=r;have ek:k'=k:=as.k;subst ek;cases h with
 |cell h=>
  have h:k'=0:=h;subst h;have:=as.sg rfl;have h1:Sd rs (.n0 n) (v'.n,1,1,v'.c) [v'.sg]:=.cell e;rw[show v'.sg=v.sg from this]at h1;have e1:v'.c=v'.c+(([]:List SI).map SI.c).sum:=by simp
  rw[e1]at h1;exact⟨_,_,h1⟩
 | @turn x h hx=>
  have h:k'=3:=h;subst h;obtain⟨a,c,s⟩:=hy x (by simp);have ho:v'.o1=v.o1:=as.o1 (show(3:Nat)≠0 by decide);have ht:v'.t=v.t:=as.t rfl;have hx:x.nm=v'.o1:=by rw[ho];exact hx
  rw[hx]at s;have h1:=Sd.turn e s;rw[ht]at h1;have e1:x.c=([x].map SI.c).sum:=by simp
  rw[e1]at h1;exact⟨_,_,h1⟩
 | @pair x y _ h hx hy2 m=>
  obtain⟨a,c,s⟩:=hy x (by simp);obtain⟨a2,c2,s2⟩:=hy y (by simp);have hx:x.nm=v'.o1:=by rw[show v'.o1=v.o1 from as.o1 (by rcases h with h | h<;>(have h:k'=_:=h;subst h;exact λz=>by cases z))];exact hx
  have hy2:y.nm=v'.o2:=by rw[show v'.o2=v.o2 from as.o2 h];exact hy2
  rw[hx]at s;rw[hy2]at s2;rcases h with h | h
  ·have h:k'=1:=h
   subst h;have m':fS 1 v' [x.p,y.p]=some pc:=m;have e1:a=a2:=(mv (s.pic hg) (s2.pic hg) m').1;subst e1;have h1:=Sd.beside e s s2 m';have e1:x.c+y.c=([x,y].map SI.c).sum:=by simp
   rw[e1]at h1;exact⟨_,_,h1⟩
  ·have h:k'=2:=h
   subst h;have m':fS 2 v' [x.p,y.p]=some pc:=m;have e1:c=c2:=(nE (s.pic hg) (s2.pic hg) m').1;subst e1;have h1:=Sd.above e s s2 m';have e1:x.c+y.c=([x,y].map SI.c).sum:=by simp
   rw[e1]at h1;exact⟨_,_,h1⟩
theorem Nx.ne{r:Nat×RV}{ys:List SI}{pc:bz}(h:Nx r ys pc):ys.length<=2:=by cases h<;>simp
structure GS(H:Hp)(p:bz)(sg:HY)(lim:Int)(lr ls:Addr)(ts:Ib)(rs:Yaa)(zs:List FI):Prop where
 rows:dA H lr ts rs
 ro:∀r∈rs,fo p sg r
 st:H ls=some (.lst (zs.map λz=>V.ref z.a))
 at_:∀z∈zs,z.at H
 good:∀z∈zs,zW rs p lim z.x
 ne:lr≠ls
theorem GS.up{H H':Hp}{p:bz}{sg:HY}{lim:Int}{lr ls:Addr}{ts:Ib}{rs:Yaa}{zs:List FI}(g:GS H p sg lim lr ls ts rs zs)(s:az H H'):GS H' p sg lim lr ls ts rs zs:=
 ⟨g.rows.up s,g.ro,s _ _ g.st,λz hz=>(g.at_ z hz).up s,g.good,g.ne⟩
theorem GS.st'{H:Hp}{p:bz}{sg:HY}{lim:Int}{lr ls:Addr}{ts:Ib}{rs:Yaa}{zs:List FI}(g:GS H p sg lim lr ls ts rs zs):H ls=some (.lst ((zs.map FI.a).map V.ref)):=by rw[Hh];exact g.st
theorem GS.row{H:Hp}{p:bz}{sg:HY}{lim:Int}{lr ls:Addr}{ts:Ib}{rs:Yaa}{zs:List FI}(g:GS H p sg lim lr ls ts rs zs){t:Addr}{r:Nat×RV}(ht:H t=some (.tup (fh r)))(hr:fo p sg r):GS (au H lr (.lst (ts.map V.ref++[V.ref t]))) p sg lim lr ls (ts++[t]) (rs++[r]) zs:=
 ⟨g.rows.app ht,λx hx=>by rcases Hg.mp hx with h | h;exact g.ro x h;rw[G8.mp h];exact hr,by rw[ao g.ne.symm];exact g.st,λz hz=>(g.at_ z hz).keep g.rows.1 dR.put,λz hz=>⟨let ⟨a,c,s⟩:=(g.good z hz).sd;⟨a,c,s.more r⟩,(g.good z hz).nm,(g.good z hz).le⟩,g.ne⟩
theorem GS.item{H:Hp}{p:bz}{sg:HY}{lim:Int}{lr ls:Addr}{ts:Ib}{rs:Yaa}{zs:List FI}(g:GS H p sg lim lr ls ts rs zs){z:FI}(hz:z.at H)(hg:zW rs p lim z.x):GS (au H ls (.lst (zs.map (λz=>V.ref z.a)++[V.ref z.a]))) p sg lim lr ls ts rs (zs++[z]):=by
 have hk:dR ls H (au H ls (.lst (zs.map (λz=>V.ref z.a)++[V.ref z.a]))):=dR.put;refine⟨⟨hk _ _ g.ne g.rows.1,g.rows.2.1,λi t r e1 e2=>hk.tups g.st' _ _ (g.rows.2.2 i t r e1 e2)⟩,g.ro,by rw[ac,Hf];rfl,λy hy=>?_,λy hy=>?_,g.ne⟩
 ·rcases Hg.mp hy with h | h
  ·exact(g.at_ y h).keep g.st' hk
  ·rw[G8.mp h];exact hz.keep g.st' hk
 ·rcases Hg.mp hy with h | h
  ·exact g.good y h
  ·rw[G8.mp h];exact hg
def zE(lr ls:Addr)(H H':Hp):Prop:=∀y u,y≠lr->y≠ls->H y=some u->H' y=some u
noncomputable abbrev oi:Stmt:=kD 46
inductive l7(K:W.Frag)(vs:List V)(H:Hp)(Q:VK)(_E:XK):Prop
 |mk (a:Addr) (ns:List Int) (k:Nat) (_:vs=[.ref a,.int (k:Int)]) (_:aN K H a (ns.map V.int)) (_:k<=1000) (_:∀c:Int,Q (.int c) H)
theorem yf:ay ["_law_script","_law_k","_law_cell_here","_law_mixed"] ["_law_script","_law_k"] (ak oi):=by walk_at "c"
theorem x5{f:Addr}{fd:Ie}(F:cY K "_law_cell" "_law_cell" oi f fd)(nb:NB mg):aZ P w K mg base bF 1 f fd ["_law_script","_law_k"] (l7 K):=by
 have sc:=yf;walk_at "f"
 ·obtain⟨a,ns,k,rfl,_⟩:=h;rfl
 ·obtain⟨a,ns,k,rfl,hS,hk,q⟩:=h
  refine⟨_,(ae (aB (i:=2) sc.nd rfl (Or.inl rfl) ah)
   (ae (bj (aE ju (ax aU rfl nb.len aR (aa (pv 0) ad)) ah (aI _))
   (ai (aB (i:=2) sc.nd rfl (Or.inl rfl) (aD mX (pv 0) (ar aQ (pv 1) (ax aU rfl nb.len aR (aa (pv 0) ad))) (λ_ _=>rfl))))
   aJ)
   (ae (aB (i:=3) sc.nd rfl (Or.inl rfl) (ar aQ (ar dN (ar bN (ar bN (ar aQ (pv 2) ah) (ar dN ah (pv 1))) ah) ah) ah))
   (ai (aG (ar bN (ar dN (ar a_ (pv 2) ah) ah) (ar aQ (ar bN (ar dN (pv 3) ah) (pv 1)) ah))))))),?_⟩
  walk_at "wp";refine⟨_,hS,?_⟩;rw[G7]
  split
  ·rename_i hlt
   have h0:0<=(k:Int)%(ns.length:Int):=HP _ ⋯;have h1:(k:Int)%(ns.length:Int)<ns.length:=HQ _ ⋯;obtain⟨j,hj⟩:∃j:Nat,(k:Int)%(ns.length:Int)=(j:Int):=⟨_,(HR h0).symm⟩;have hj2:j<ns.length:=by omega
   refine⟨_,hS,by rw[G7];omega,_,hS,V.int ns[j],?_,_,rfl,_,rfl,q _⟩;rw[G7,hj];exact br (by rw[G9,G4 hj2];rfl)
  ·exact q _
theorem xV:(Str.ofString "abcdefghijklmnopqrstuvwxyz").cps.toList=(List.range 26).map (97 + ·):=by decide +kernel
theorem ii{r:HY}(h:cZ r=true):1<=r.length/\r.length<=4:=by
 unfold cZ at h;simp only[Bool.and_eq_true,decide_eq_true_eq]at h;exact⟨h.1.1.1,h.1.1.2⟩
theorem AF{α:Type}[DecidableEq α]:∀(l σ:List α),(∀x∈l,x∉σ)->l.Nodup->l.foldl dy σ=σ++l
 | [],σ,_,_=>by simp
 |x::l,σ,h,nd=>by
  rw[List.nodup_cons]at nd;rw[List.foldl_cons,show dy σ x=σ++[x] by unfold dy;rw[if_neg (h x List.mem_cons_self)]];rw[AF l (σ++[x]) (λy hy hm=>?_) nd.2,HC];rfl
  rcases Hg.mp hm with hm | hm
  ·exact h y (Hj _ hy) hm
  ·rw[G8.mp hm]at hy;exact nd.1 hy
theorem zh:∀n,n<26->Dg iN (97+n)=true:=by decide +kernel
structure B0(r:HY):Prop where
 sm:∀x∈r,97<=x/\x<123
 nd:r.Nodup
theorem B0.signs{r:HY}(h:B0 r)(h1:1<=r.length)(h4:r.length<=4):cZ r=true:=by
 have ho:fZ r iN=true:=HK.mpr λx hx=>by
  have:=h.sm x hx;have e:=zh (x-97) ⋯
  rwa [show 97+(x-97)=x by omega]at e
 have hl:(met (b8 (tx r))).length=r.length:=by
  unfold met;rw[AF _ _ (λ_ _=>List.not_mem_nil) ?_]
  ·unfold b8;rw[dO];simp
  ·unfold b8
   rw[dO,List.Nodup,List.pairwise_map];exact h.nd.imp λn e=>n (by have:=congrArg (λs:Str=>s.cps[0]?) e;simpa using this)
 unfold cZ;rw[ho,hl];simp;omega
theorem pS{α β:Type}(f:α->β):∀(l:List α) (k:Nat),(l.map f).eraseIdx k=(l.eraseIdx k).map f
 | [],_=>rfl
 |_::_,0=>rfl
 |x::l,k+1=>congrArg (f x :: ·) (pS f l k)
theorem on(r s:HY):tx r++tx s=tx (r++s):=by
 show(⟨r.toArray++s.toArray⟩:Str)=⟨(r++s).toArray⟩;simp
theorem oy{α:Type}:∀(l:List α) (k:Nat) (x:α),l[k]?=some x->(x::l.eraseIdx k).Perm l
 | [],_,_,e=>nomatch e
 |y::l,0,x,e=>by cases e;exact List.Perm.refl _
 |y::l,k+1,x,e=>(List.Perm.swap y x _).trans ((oy l k x e).cons y)
theorem B0.pop{r pl:HY}{k ch:Nat}(h:B0 (r++pl))(e:pl[k]?=some ch):B0 ((r++[ch])++pl.eraseIdx k):=by
 have hp:(r++[ch]++pl.eraseIdx k).Perm (r++pl):=by
  rw[HC];exact(oy pl k ch e).append_left r
 exact⟨λx hx=>h.sm x (hp.mem_iff.mp hx),hp.nodup_iff.mpr h.nd⟩
noncomputable abbrev mf:Stmt:=kD 49
inductive oH(vs:List V)(H:Hp)(Q:VK)(_E:XK):Prop
 |mk (c:Int) (_:vs=[.int c,.int 4]) (_:∀(r:HY) (H':Hp),cZ r=true->az H H'->Q (.str (tx r)) H')
theorem uI:ay ["_law_cell_here","_law_most","_law_pool","_law_rest","_law_signs_here","_law_k"] ["_law_cell_here","_law_most"] (ak mf):=by walk_at "c"
theorem va{f:Addr}{fd:Ie}(F:cY K "_law_signs" "_law_signs" mf f fd)(nb:NB mg):aZ P w K mg base bF 1 f fd ["_law_cell_here","_law_most"] oH:=by
 have sc:=uI;walk_at "f"
 ·obtain⟨c,rfl,_⟩:=h;rfl
 ·obtain⟨c,rfl,q⟩:=h
  refine⟨_,(ae (aB (i:=2) sc.nd rfl (Or.inl rfl) (cw (uS rfl) rfl nb.list fW (bV ad)))
   (ae (aB (i:=3) sc.nd rfl (Or.inl rfl) (ar (aW.m1 a_) (al 0) ah))
   (ae (aB (i:=4) sc.nd rfl (Or.inl rfl) iW)
   (ae (bD PassesOwn.never rfl (dq rfl nb.range (aa (ar (aW.m0 bN) ah (ar (aW.m1 aQ) (ar (aW.m1 aQ) (al 0) ah) (al 1))) ad)) (av (i:=5) sc.nd rfl (Or.inl rfl))
   (ae (aB (i:=4) sc.nd rfl (Or.inl rfl) (ar fD (al 4) (gX PySem.F.plainAttrs_list PySem.F.slot_list_pop PySem.F.type_list_pop zM (al 2) (aa (ar (aW.m1 aQ) (al 3) (ax aU rfl nb.len aR (aa (al 2) ad))) ad))))
   (ai (aB (i:=3) sc.nd rfl (Or.inl rfl) (ar (aW.m1 a_) (al 3) (ar (aW.m0 bN) (ax aU rfl nb.len aR (aa (al 2) ad)) ah))))))
   (ai (aG (al 4))))))),?_⟩
  walk_at "n";refine⟨by decide +kernel,λlp hlp=>h1 _ _ ?_⟩;clear h1;rw[xV];have s1:=af (o:=.lst (((List.range 26).map (97 + ·)).map λc=>V.str ⟨#[c]⟩)) hlp;have e1:au H lp (.lst (((List.range 26).map (97 + ·)).map λc=>V.str ⟨#[c]⟩)) lp=some (.lst (((List.range 26).map (97 + ·)).map λc=>V.str ⟨#[c]⟩)):=ac;generalize au H lp (.lst (((List.range 26).map (97 + ·)).map λc=>V.str ⟨#[c]⟩))=H1 at s1 e1 ⊢;have i0:B0 ((List.range 26).map (97 + ·)):=⟨nofun,nofun⟩;have l0:((List.range 26).map (97 + ·)).length=26:=rfl;generalize(List.range 26).map (97 + ·)=p0 at e1 i0 l0;walk_at "n";refine h1 _ _ ?_;clear h1;generalize c/4=re;walk_at "n";refine h1 _ _ ?_;walk_at "nc";obtain⟨m,hm⟩:∃m:Nat,c%4%4=(m:Int):=⟨_,(HR (HP _ ⋯)).symm⟩;have m2:m<4:=by omega
  rw[hm,show(1+(m:Int)).toNat=1+m by omega];refine⟨⋯,⋯,?_⟩;refine cH (lo:=0) (n:=1+m) (λi σ H'=>i<=1+m/\az H H'/\∃(pl r:HY) (re':Int) (x:Option V),H' lp=some (.lst (pl.map λc=>V.str ⟨#[c]⟩))/\pl.length+i=26/\r.length=i/\B0 (r++pl)/\σ=[some (V.int c),some (V.int 4),some (V.ref lp),some (V.int re'),some (V.str (tx r)),x]) ⟨⋯,s1,p0,[],re,none,e1,l0,rfl,i0,rfl⟩ ?_ ?_
  ·rintro i σ H' hi ⟨hi2,sm,pl,r,re',x,hp,pl26,rl,hS,rfl⟩
   walk_at "n";have h0:0<=re'%(pl.length:Int):=HP _ ⋯;have hl:re'%(pl.length:Int)<pl.length:=HQ _ ⋯;obtain⟨k,hk⟩:∃k:Nat,re'%(pl.length:Int)=(k:Int):=⟨_,(HR h0).symm⟩;have hk2:k<pl.length:=by omega
   obtain⟨ch,hch⟩:∃ch,pl[k]?=some ch:=⟨_,G4 hk2⟩;have hsx:seqIndex? (k:Int) pl.length=some k:=by unfold seqIndex?;simp;omega
   have e3:(pl.map λc=>V.str ⟨#[c]⟩).eraseIdx k=(pl.eraseIdx k).map λc=>V.str ⟨#[c]⟩:=pS ..;refine⟨.inl ⟨rfl,_,aN.of hp⟩,_,aN.of hp,by rw[G7];omega,_,hp,by rw[G7];omega,by rw[G7];omega,k,by rw[G7,hk];exact hsx,_,by rw[G9,hch];rfl,_,rfl,?_,h1 _ _ ?_⟩
   ·rw[aw];exact am (by show _+1<=_;omega)
   clear h1;rw[e3,show tx r++(⟨#[ch]⟩:Str)=tx (r++[ch]) from on r [ch]];have s2:az H (au H' lp (.lst ((pl.eraseIdx k).map λc=>V.str ⟨#[c]⟩))):=dI sm hlp;have e2:au H' lp (.lst ((pl.eraseIdx k).map λc=>V.str ⟨#[c]⟩)) lp=some (.lst ((pl.eraseIdx k).map λc=>V.str ⟨#[c]⟩)):=ac;generalize au H' lp (.lst ((pl.eraseIdx k).map λc=>V.str ⟨#[c]⟩))=H2 at s2 e2 ⊢;have el:(pl.eraseIdx k).length=pl.length-1:=List.length_eraseIdx_of_lt hk2;walk_at "wp";exact⟨_,aN.of e2,by rw[G7];omega,by rw[G7];omega,⋯,s2,pl.eraseIdx k,e2,⋯,r++[ch],by simp[rl],hS.pop hch,rfl⟩
  ·rintro σ H' ⟨_,sm,pl,r,re',x,hp,pl26,rl,hS,rfl⟩
   refine h1 _ _ ?_;walk_at "wp";exact q r H' (B0.signs ⟨λx hx=>hS.sm x (List.mem_append_left _ hx),(List.nodup_append.mp hS.nd).1⟩ ⋯ ⋯) sm
theorem yy{row:HY}{n:Nat}(h:n<=row.length):Txt.slice (tx row) none (some (n:Int))=tx (row.take n):=by
 rw[p_,HT.sIx_nat,HS h];show tx ((row.drop 0).take (n-0))=_;rw[HU,Nat.sub_zero]
theorem vZ{row:HY}{n:Nat}(h:n<=row.length):Txt.slice (tx row) (some (n:Int)) none=tx (row.drop n):=by
 rw[p_,HT.sIx_nat,HS h];show tx ((row.drop n).take (row.length-n))=_;rw[List.take_of_length_le (by rw[HG];omega)]
theorem vM:∀n,n<26->(Str.ofString "ABCDEFGHIJKLMNOPQRSTUVWXYZ").cps.toList[n]?=some (65+n):=by decide +kernel
noncomputable def Ai(c:Nat):Bool:=Dg CI c
theorem vf:∀n,n<26->Ai (65+n)=true:=by decide +kernel
theorem AZ(x:Int):∃n:Nat,n<26/\x%26=(n:Int):=⟨(x%26).toNat,⋯,⋯⟩
theorem wM{r:HY}(h:∀x∈r,Ai x=true)(h1:1<=r.length)(h4:r.length<=4):cr r=true:=by
 have hall:r.all (Dg CI)=true:=HK.mpr h;unfold cr fZ;rw[hall];simp;omega
theorem gS{c:Prop}[Decidable c]{A B:Prop}(hA:c->A)(hB:¬ c->B):if c then A else B:=by
 by_cases h:c
 ·rw[if_pos h];exact hA h
 ·rw[if_neg h];exact hB h
noncomputable abbrev gq:Stmt:=kD 50
inductive iX(vs:List V)(H:Hp)(Q:VK)(_E:XK):Prop
 |mk (c:Int) (_:vs=[.int c]) (_:∀(l:Addr) (p:bz) (H':Hp),H l=none->H' l=some (.lst (aH p))->p.length=4->(∀r∈p,cr r=true)->az H H'->Q (.ref l) H')
theorem oI:ay ["_law_rest","_law_letters","_law_names_here","_law_k","_law_name","_law_size","_law_j"] ["_law_rest"] (ak gq):=by walk_at "c"
theorem nJ{f:Addr}{fd:Ie}(F:cY K "_law_any_names" "_law_any_names" gq f fd)(nb:NB mg):aZ P w K mg base bF 1 f fd ["_law_rest"] iX:=by
 have sc:=oI;walk_at "f"
 ·obtain⟨c,rfl,_⟩:=h;rfl
 ·obtain⟨c,rfl,q⟩:=h
  refine⟨_,(ae (aB (i:=1) sc.nd rfl (Or.inl rfl) iW)
   (ae (aB (i:=2) sc.nd rfl (Or.inl rfl) (bq ad))
   (ae (bD PassesOwn.never rfl (dq rfl nb.range (bc ad)) (av (i:=3) sc.nd rfl (Or.inl rfl))
   (ae (aB (i:=4) sc.nd rfl (Or.inl rfl) iW)
   (ae (aB (i:=5) sc.nd rfl (Or.inl rfl) (ar (aW.m0 bN) ah (ar (aW.m1 aQ) (al 0) ah)))
   (ae (aB (i:=0) sc.nd rfl (Or.inl rfl) (ar (aW.m1 a_) (al 0) ah))
   (ae (bD PassesOwn.never rfl (dq rfl nb.range (aa (al 5) ad)) (av (i:=6) sc.nd rfl (Or.inl rfl))
   (ae (aB (i:=4) sc.nd rfl (Or.inl rfl) (ar fD (al 4) (aD jv (al 1) (ar (aW.m1 aQ) (al 0) ah) (λ_ _=>rfl))))
   (ai (aB (i:=0) sc.nd rfl (Or.inl rfl) (ar (aW.m1 a_) (al 0) ah)))))
   (ai (bu (gX PySem.F.plainAttrs_list PySem.F.slot_list_append PySem.F.type_list_append cA (al 2) (aa (al 4) ad)))))))))
   (ai (aG (al 2)))))),?_⟩
  walk_at "n";refine h1 _ _ ?_;walk_at "nc";refine⟨am nofun,λln hln=>h1 _ _ ?_⟩;clear h1;have s1:=af (o:=.lst []) hln;have e1:au H ln (.lst []) ln=some (.lst []):=ac;generalize au H ln (.lst [])=H1 at s1 e1 ⊢;walk_at "n";refine⟨nofun,?_⟩;refine cH (n:=4) (λi σ H'=>az H H'/\(∃p:bz,H' ln=some (.lst (aH p))/\p.length=i/\∀r∈p,cr r=true)/\∃re x y u v,σ=[some (V.int re),some (V.str (Str.ofString "ABCDEFGHIJKLMNOPQRSTUVWXYZ")),some (V.ref ln),x,y,u,v]) ⟨s1,⟨[],e1,rfl,λr hr=>nomatch hr⟩,_,_,_,_,_,rfl⟩ ?_ ?_
  ·rintro i σ H' hi ⟨sm',⟨p,hp,pl,pn⟩,re,x,y,u,v,rfl⟩
   walk_at "n";refine h1 _ _ ?_;walk_at "nc";refine h1 _ _ ?_;clear h1;obtain⟨m,hm⟩:∃m:Nat,re%4=(m:Int):=⟨_,(HR (HP _ ⋯)).symm⟩;have m2:m<4:=by omega
   rw[hm];walk_at "n";refine h1 _ _ ?_;clear h1;generalize re/4=re1;walk_at "n";rw[show(1+(m:Int)).toNat=1+m by omega];refine⟨⋯,⋯,?_⟩;refine cH (n:=1+m) (λj σ H2=>H2=H'/\∃(re x:Int) (r:HY) (y:Option V),r.length=j/\(∀x∈r,Ai x=true)/\σ=[some (V.int re),some (V.str (Str.ofString "ABCDEFGHIJKLMNOPQRSTUVWXYZ")),some (V.ref ln),some (V.int i),some (V.str (tx r)),some (V.int (1+(m:Int))),y]) ⟨rfl,re1,0,[],_,rfl,λx hx=>(nomatch hx),rfl⟩ ?_ ?_
   ·rintro j σ H2 hj ⟨rfl,re2,_,r,y2,rl,rc,rfl⟩
    walk_at "wp";obtain⟨n,hn1,hn2⟩:=AZ re2;refine⟨nofun,65+n,by rw[hn2];exact br (vM n hn1),?_,_,r++[65+n],by simp[rl],λz hz=>?_,rfl,on r [65+n]⟩
    ·rw[aw];exact am (by show _+1<=_;omega)
    ·rcases Hg.mp hz with h | h
     ·exact rc z h
     ·rw[G8.mp h];exact vf n hn1
   ·rintro σ H2 ⟨rfl,re2,_,r,y2,rl,rc,rfl⟩
    refine h1 _ _ ?_;walk_at "wp";refine⟨.inl ⟨rfl,_,aN.of hp⟩,_,hp,by rw[aC,pl];exact bb ⋯,dI sm' hln,p++[r],?_,by rw[Hq,pl];rfl,λz hz=>?_⟩
    ·rw[ac];unfold aH;rw[Hf];rfl
    ·rcases Hg.mp hz with h | h
     ·exact pn z h
     ·rw[G8.mp h];exact wM rc ⋯ ⋯
  ·rintro σ H' ⟨sm',⟨p,hp,pl,pn⟩,re,x,y,u,v,rfl⟩
   refine h1 _ _ ?_;walk_at "wp";exact q ln p H' hln hp pl pn sm'
noncomputable abbrev lJ:Stmt:=kD 51
inductive nC(vs:List V)(H:Hp)(Q:VK)(_E:XK):Prop
 |mk (c:Int) (_:vs=[.int c]) (_:∀(l:Addr) (p:bz) (H':Hp),H l=none->H' l=some (.lst (aH p))->p.length=4->(∀r∈p,cr r=true)->az H H'->Q (.ref l) H')
theorem u5:ay ["_law_cell_here","_law_letters","_law_size","_law_at","_law_step_here","_law_base","_law_names_here","_law_k","_law_letter"] ["_law_cell_here"] (ak lJ):=by walk_at "c"
theorem u8{f:Addr}{fd:Ie}(F:cY K "_law_names" "_law_names" lJ f fd)(nb:NB mg)(zNb:fF P w K mg base bF 1 "_law_any_names" ["_law_rest"] iX):aZ P w K mg base bF 2 f fd ["_law_cell_here"] nC:=by
 have sc:=u5;walk_at "f"
 ·obtain⟨c,rfl,_⟩:=h;rfl
 ·obtain⟨c,rfl,q⟩:=h
  refine⟨_,(ae (bj (aE cI (ar (aW.m1 aQ) (al 0) ah) ah (aI _))
   (ai (aG (aK zNb (hr.mono nofun) rfl bg (aa (ar (aW.m1 a_) (al 0) ah) ad))))
   aJ)
   (ae (aB (i:=0) sc.nd rfl (Or.inr rfl) (ar (aW.m1 a_) (al 0) ah))
   (ae (aB (i:=1) sc.nd rfl (Or.inr rfl) iW)
   (ae (aB (i:=2) sc.nd rfl (Or.inl rfl) (ar (aW.m0 bN) ah (ar (aW.m1 aQ) (al 0) ah)))
   (ae (aB (i:=3) sc.nd rfl (Or.inl rfl) (ar (aW.m1 aQ) (ar (aW.m1 a_) (al 0) ah) (al 2)))
   (ae (aB (i:=4) sc.nd rfl (Or.inl rfl) (ar (aW.m0 bN) ah (ar (aW.m1 dN) ah (ar (aW.m1 aQ) (ar (aW.m1 a_) (al 0) ah) ah))))
   (ae (aB (i:=5) sc.nd rfl (Or.inl rfl) (gX PySem.F.plainAttrs_str PySem.F.slot_str_join PySem.F.type_str_join wE iW (aa (du ["_law_k"] [1,0] rfl (bv.of (by kernel_rfl)) (by kernel_rfl) (dq rfl nb.range (aa (al 2) ad))
    (λ_ _ _ _=>(av (i:=0) (by show(["_law_k","_law_letters","_law_cell_here"]:List Str).Nodup;decide +kernel) rfl (Or.inl rfl))) (λ_ _ _ _=>cD) (λ_ _ _ _=>(aD jv (al 1) (ar (aW.m1 aQ) (ar (aW.m0 bN) (ar (aW.m1 a_) (al 2) ah) (ar (aW.m1 dN) ah (al 0))) ah) (λ_ _=>rfl)))) ad)))
   (ae (aB (i:=6) sc.nd rfl (Or.inl rfl) (bq ad))
   (ae (bD PassesOwn.never rfl (dq rfl nb.range (bc ad)) (av (i:=7) sc.nd rfl (Or.inl rfl))
   (ae (aB (i:=8) sc.nd rfl (Or.inl rfl) (aD jv (al 1) (ar (aW.m1 aQ) (ar (aW.m0 bN) (ar (aW.m1 a_) (al 0) ah) (ar (aW.m1 dN) (al 4) (al 7))) ah) (λ_ _=>rfl)))
   (ai (bu (gX PySem.F.plainAttrs_list PySem.F.slot_list_append PySem.F.type_list_append cA (al 6) (aa (ar fD (ar fD (fH Ax (al 5) jB (fR (al 3))) (al 8)) (fH Ax (al 5) (fR (ar (aW.m0 bN) (al 3) ah)) jB)) ad))))))
   (ai (aG (al 6)))))))))))),?_⟩
  walk_at "n";refine gS (λ_=>⟨_,rfl,λl p H' h1 h2 h3 h4 h5=>q l p H' h1 h2 h3 h4 h5⟩) (λ_=>h1 _ _ ?_);walk_at "nc";refine h1 _ _ ?_;clear h1;generalize c/2=c;obtain⟨m,hm⟩:∃m:Nat,c%4=(m:Int):=⟨_,(HR (HP _ ⋯)).symm⟩;have m2:m<4:=by omega
  walk_at "n";refine h1 _ _ ?_;walk_at "nc";refine h1 _ _ ?_;clear h1;rw[hm];walk_at "n";refine⟨⋯,h1 _ _ ?_⟩;clear h1;obtain⟨at_,hat⟩:∃k:Nat,c/4%(1+(m:Int))=(k:Int):=⟨_,(HR (HP _ ⋯)).symm⟩;have hat2:at_<1+m:=by have:=HQ (c/4) (b:=1+(m:Int)) ⋯;omega
  rw[hat];walk_at "n";refine h1 _ _ ?_;clear h1;generalize 1+2*(c/16%6)=st;walk_at "n";have en:(1+(m:Int)).toNat=1+m:=by omega
  rw[en];refine⟨rfl,⋯,⋯,?_⟩
  let fc:Nat->Nat:=λi=>65+((c/96+5*(i:Int))%26).toNat
  refine sZ (n:=1+m) (f:=λi=>some (V.str ⟨#[fc i]⟩)) (λσ=>∃x,σ=[x,some (.str "ABCDEFGHIJKLMNOPQRSTUVWXYZ"),some (.int c)]) ⟨_,rfl⟩ ⋯ ?_ ?_
  ·rintro i hi σ H' N1 N0 ⟨y,rfl⟩ sm k1 k0
   walk_at "wp";obtain⟨n,h1,h2⟩:=AZ (c/96+5*(i:Int));refine⟨nofun,fc i,?_,k1 _ _ _ rfl sm ⟨_,rfl⟩⟩;show dY _ _=some (65+((c/96+5*(i:Int))%26).toNat);rw[h2];exact br (vM n h1)
  ·intro H' sm l hl
   rw[lj];have e0:(List.range (1+m)).map (λi=>V.str ⟨#[fc i]⟩)=(((List.range (1+m)).map fc).map λc=>(⟨#[c]⟩:Str)).map V.str:=by rw[Hh,Hh];rfl
   rw[e0];have hcs:∀x∈(List.range (1+m)).map fc,Ai x=true:=λx hx=>by
    obtain⟨i,_,rfl⟩:=HJ.mp hx;obtain⟨n,h1,h2⟩:=AZ (c/96+5*(i:Int));show Ai (65+((c/96+5*(i:Int))%26).toNat)=true;rw[h2];exact vf n h1
   have hcl:((List.range (1+m)).map fc).length=1+m:=by simp
   generalize(List.range (1+m)).map fc=cs at hcs hcl ⊢;refine⟨_,.inl (aN.of ac),?_,?_⟩
   ·rw[Hh]
    have e1:((λy:Str=>y.length)∘λc=>(⟨#[c]⟩:Str))=λ_=>1:=by funext c;rfl
    have e0:(Str.ofString "").length=0:=rfl;rw[e1,List.map_const',List.sum_replicate_nat,G7,e0];omega
   rw[lQ];refine h1 _ _ ?_;clear h1;have s1:=sm.trans (af (o:=.lst ((cs.map λc=>(⟨#[c]⟩:Str)).map V.str)) hl);generalize au H' l (.lst ((cs.map λc=>(⟨#[c]⟩:Str)).map V.str))=H1 at s1 ⊢;walk_at "n";refine⟨am nofun,λln hln=>h1 _ _ ?_⟩;clear h1;have frn:=s1.free hln;have s2:=s1.trans (af (o:=.lst []) hln);have e2:au H1 ln (.lst []) ln=some (.lst []):=ac;generalize au H1 ln (.lst [])=H2 at s2 e2 ⊢;walk_at "n";refine⟨nofun,?_⟩;refine cH (n:=4) (λi σ H'=>az H H'/\(∃p:bz,H' ln=some (.lst (aH p))/\p.length=i/\∀r∈p,cr r=true)/\∃x y,σ=[some (V.int c),some (V.str (Str.ofString "ABCDEFGHIJKLMNOPQRSTUVWXYZ")),some (V.int (1+(m:Int))),some (V.int (at_:Int)),some (V.int st),some (V.str (tx cs)),some (V.ref ln),x,y]) ⟨s2,⟨[],e2,rfl,λr hr=>nomatch hr⟩,_,_,rfl⟩ ?_ ?_
   ·rintro i σ H' hi ⟨sm',⟨p,hp,pl,pn⟩,x,y,rfl⟩
    walk_at "wp";obtain⟨n,hn1,hn2⟩:=AZ (c/2496+st*(i:Int));have nm:cr (cs.take at_++[65+n]++cs.drop (at_+1))=true:=by
     refine wM (λx hx=>?_) (by simp;omega) (by simp;omega);rcases Hg.mp hx with h | h
     ·rcases Hg.mp h with h | h
      ·exact hcs x (List.mem_of_mem_take h)
      ·rw[G8.mp h];exact vf n hn1
     ·exact hcs x (List.mem_of_mem_drop h)
    have at1:((at_:Int)+1)=((at_+1:Nat):Int):=by push_cast;rfl
    rw[yy ⋯,at1,vZ ⋯];have lt1:(cs.take at_).length<=4:=by rw[HF];omega
    have lt2:(cs.drop (at_+1)).length<=4:=by rw[HG];omega
    have ez:tx (cs.take at_)++(⟨#[65+n]⟩:Str)++tx (cs.drop (at_+1))=tx (cs.take at_++[65+n]++cs.drop (at_+1)):=by rw[show(⟨#[65+n]⟩:Str)=tx [65+n] from rfl,on,on]
    refine⟨.inr ⟨⋯,⋯⟩,nofun,65+n,by rw[hn2];exact br (vM n hn1),.inl ⟨rfl,_,aN.of hp⟩,by rw[aw];exact am ⋯,?_,by rw[aw];exact am ⋯,?_,_,hp,by rw[aC,pl];exact bb ⋯,?_⟩
    ·rw[aw];exact am (by show _+1<=_;omega)
    ·rw[show(⟨#[65+n]⟩:Str)=tx [65+n] from rfl,on,aw,aw];exact am (by simp;omega)
    ·rw[ez]
     refine⟨dI sm' frn,p++[cs.take at_++[65+n]++cs.drop (at_+1)],?_,by rw[Hq,pl];rfl,λr hr=>?_⟩
     ·rw[ac];unfold aH;rw[Hf];rfl
     ·rcases Hg.mp hr with h | h
      ·exact pn r h
      ·rw[G8.mp h];exact nm
   ·rintro σ H' ⟨sm',⟨p,hp,pl,pn⟩,x,y,rfl⟩
    refine h1 _ _ ?_;walk_at "wp";exact q ln p H' frn hp pl pn sm'
noncomputable abbrev l_:Stmt:=kD 47
inductive m4(K:W.Frag)(vs:List V)(H:Hp)(Q:VK)(_E:XK):Prop
 |mk (a:Addr) (ns:List Int) (b m:Nat) (_:vs=[.ref a,.int (b:Int),.int (m:Int)]) (_:aN K H a (ns.map V.int)) (_:b<=100) (_:1<=m) (_:m<=100) (_:∀(l:Addr) (cs:List Int) (H':Hp),H l=none->H' l=some (.lst (cs.map V.int))->1<=cs.length->cs.length<=m->az H H'->Q (.ref l) H')
theorem uO:ay ["_law_script","_law_begin","_law_most","_law_many"] ["_law_script","_law_begin","_law_most"] (ak l_):=by walk_at "c"
theorem uY{f:Addr}{fd:Ie}(F:cY K "_law_cells" "_law_cells" l_ f fd)(nb:NB mg)(zFa:fF P w K mg base bF 1 "_law_cell" ["_law_script","_law_k"] (l7 K)):aZ P w K mg base bF 2 f fd ["_law_script","_law_begin","_law_most"] (m4 K):=by
 have sc:=uO;walk_at "f"
 ·obtain⟨a,ns,b,m,rfl,_⟩:=h;rfl
 ·obtain⟨a,ns,b,m,rfl,ha,hb,hm1,hm,q⟩:=h
  refine⟨_,(ae (aB (i:=3) sc.nd rfl (Or.inl rfl) (ar (aW.m0 dc) (al 2) (ar (aW.m1 a_) (ar (aW.m1 aQ) (aK zFa (hr.mono nofun) rfl bg (aa (al 0) (bc ad))) (al 2)) ah)))
   (ai (aG (du ["_law_k"] [0] rfl (bv.of (by kernel_rfl)) (by kernel_rfl) (gW rfl nb.range (aa (al 1) (aa (ar (aW.m0 bN) (al 1) (al 3)) ad)))
    (λ_ _ _ _=>(av (i:=0) (by show(["_law_k","_law_script"]:List Str).Nodup;decide +kernel) rfl (Or.inl rfl))) (λ_ _ _ _=>cD) (λ_ _ _ _=>(aK zFa (hr.mono nofun) rfl bg (aa (al 1) (aa (al 0) ad)))))))),?_⟩
  walk_at "n";refine⟨a,ns,62,rfl,ha,⋯,λc=>⟨_,rfl,⋯,h1 _ _ ?_⟩⟩;clear h1;obtain⟨n,hn⟩:∃n:Nat,(m:Int)-c%(m:Int)/2=(n:Int):=⟨((m:Int)-c%(m:Int)/2).toNat,by have:=HP c (b:=(m:Int)) ⋯;have:=HQ c (b:=(m:Int)) ⋯;omega⟩;have hn2:1<=n/\n<=m:=by have:=HP c (b:=(m:Int)) ⋯;have:=HQ c (b:=(m:Int)) ⋯;omega
  rw[hn];walk_at "wp";refine⟨⋯,⋯,⋯,⋯,?_⟩;rw[show((b:Int)+(n:Int)-(b:Int)).toNat=n by omega];refine fb (λi acc σ H'=>az H H'/\i<=n/\(∃cs:List Int,acc=cs.map V.int/\cs.length=i)/\∃z,σ=[z,some (V.ref a)]) ⟨λ_ _ e=>e,Hs _,⟨[],rfl,rfl⟩,_,rfl⟩ ?_ (λi acc σ H' h=>h.2.1) ?_ ?_
  ·rintro i acc σ H' ⟨_,hi,⟨cs,rfl,hc⟩,_⟩
   rw[G7,hc];exact bb ⋯
  ·rintro i acc σ H' hi ⟨sm,_,⟨cs,rfl,hc⟩,z,rfl⟩
   walk_at "wp";exact⟨a,ns,b+i,by simp,sm.seq ha,⋯,λc=>⟨sm,hi,⟨cs++[c],by simp,by simp[hc]⟩⟩⟩
  rintro acc σ H4 ⟨s4,_,⟨cs,rfl,hc⟩,_⟩;intro l hl;exact q l cs _ (s4.free hl) ac ⋯ ⋯ (s4.trans (af hl))
noncomputable abbrev iU:Stmt:=kD 53
inductive kY(R:RC)(CG:Addr)(vs:List V)(H:Hp)(Q:VK)(_E:XK):Prop
 |mk (l:Addr) (sg st:HY) (ts:Ib) (rs:Yaa) (_:vs=[.str (tx sg),.str (tx st),.ref l]) (_:dA H l ts rs) (_:(∀r∈rs,dZ r)) (_:rs.length<=24) (_:sg.length<=100) (_:st.length<=100) (_:fK sg st rs=none) (_:∀b db as H',dX R H' CG db b sg st as rs->az H H'->Q (.ref b) H')
theorem rR:ay ["_law_signs_here","_law_start","_law_rules"] ["_law_signs_here","_law_start","_law_rules"] (ak iU):=by walk_at "c"
theorem qz{R:RC}{f CG zca:Addr}{fd:Ie}(F:cY K "_law_grammar" "_law_grammar" iU f fd)(nb:NB mg)(gk:Ee K CG)(zgf:fF P w K mg base bF 6 "_law_rule" ["_law_rule_here"] (lV R))(zYa:iF P w K mg base (b7 P w) 4 "Grammar" CG ["self","signs","start","rules"] (eV K R zca)):aZ P w K mg base bF 7 f fd ["_law_signs_here","_law_start","_law_rules"] (kY R CG):=by
 have sc:=rR;walk_at "f"
 ·obtain⟨l,sg,st,ts,rs,rfl,_⟩:=h;rfl
 ·obtain⟨l,sg,st,ts,rs,rfl,o,hg,hn,hsg,hst,g0,q⟩:=h
  refine⟨_,(ai (aG (dB (CX:=b7 P w) zYa (hr.mono nofun) rfl bf (aa (pv 0) (aa (pv 1) (aa (du ["_law_rule_here"] [] rfl (bv.of (by kernel_rfl)) (by kernel_rfl) (bX (pv 2))
    (λ_ _ _ _=>(av (i:=0) (by show(["_law_rule_here"]:List Str).Nodup;decide +kernel) rfl (Or.inl rfl))) (λ_ _ _ _=>cD) (λ_ _ _ _=>(aK zgf (hr.mono nofun) rfl bg (aa (pv 0) ad)))) ad)))))),?_⟩
  walk_at "wp";refine⟨⟨_,aN.of o.1⟩,vN o hg ⋯ λas H2 s2 hA lr hlr x dx hx hdx hne=>?_⟩;have s3:az H2 (au H2 lr (.lst (as.map V.ref))):=af hlr;have e3:au H2 lr (.lst (as.map V.ref)) lr=some (.lst (as.map V.ref)):=ac;generalize au H2 lr (.lst (as.map V.ref))=H3 at s3 e3 hx hdx ⊢;have sm4:az H3 (au (au H3 dx (.own x)) x (.ins CG dx [])):=(af hdx).trans (af (by rw[ao (Ne.symm hne)];exact hx));refine⟨x,CG,dx,lr,sg,st,as,rs,rfl,ac,gk.cl.cl,gk.na,⋯,⋯,sm4 _ _ e3,(hA.up s3).up sm4,λr hr=>(hg r hr).k4,⋯,(λ_ H4 lk pn t sx gA _ _ _=>⟨rfl,?_⟩),λy hy=>nomatch hy.symm.trans g0⟩;exact q x dx _ H4 gA.f ((s2.trans s3).trans λb u e=>sx b u (aA e hx) (sm4 b u e))
noncomputable abbrev kH:Stmt:=kD 54
inductive iT(K:W.Frag)(vs:List V)(H:Hp)(Q:VK)(_E:XK):Prop
 |mk (a:Addr) (p:bz) (r c t:Nat) (_:vs=[.ref a,.int (t:Int)]) (_:H a=some (.lst (aH p))) (_:e_ p r c) (_:0<r) (_:0<c) (_:r<=64) (_:c<=64) (_:t<8) (_:∀l H',H l=none->H' l=some (.lst (aH (turned p t)))->az H H'->Q (.ref l) H')
theorem uk:ay ["_law_picture","_law_t","_law_turn","_law_rows","_law_column"] ["_law_picture","_law_t"] (ak kH):=by walk_at "c"
theorem uh{f:Addr}{fd:Ie}(F:cY K "_law_turned" "_law_turned" kH f fd)(nb:NB mg):aZ P w K mg base bF 1 f fd ["_law_picture","_law_t"] (iT K):=by
 have sc:=uk;walk_at "f"
 ·obtain⟨a,p,r,c,t,rfl,_⟩:=h;rfl
 ·obtain⟨a,p,r,c,t,rfl,hS,hp,hr0,hc0,hr1,hc1,ht,q⟩:=h
  refine⟨_,(ae (bj (aE (aW.m0 ju) (al 1) ah (aI _))
   (ai (dM (i:=0) ["_law_row"] [] sc.nd rfl (Or.inl rfl) rfl  rfl (bv.of (by kernel_rfl)) (by kernel_rfl) (bX (al 0))
    (λ_ _ _ _=>(av (i:=0) (by show(["_law_row"]:List Str).Nodup;decide +kernel) rfl (Or.inl rfl))) (λ_ _ _ _=>cD) (λ_ _ _ _=>(ux rfl rfl nb.reversed (aa (al 0) ad)))))
   aJ)
   (ae (bD PassesOwn.never rfl (dq rfl nb.range (aa (ar (aW.m1 aQ) (al 1) ah) ad)) (av (i:=2) sc.nd rfl (Or.inl rfl))
   (ae (aB (i:=3) sc.nd rfl (Or.inl rfl) (bq ad))
   (ae (bD PassesOwn.never rfl (dq rfl nb.range (aa (ax aS rfl nb.len aR (aa (aD bi (al 0) ah (λ_ _=>rfl)) ad)) ad)) (av (i:=4) sc.nd rfl (Or.inr rfl))
   (ai (bu (gX PySem.F.plainAttrs_list PySem.F.slot_list_append PySem.F.type_list_append cA (al 3) (aa (gX PySem.F.plainAttrs_str PySem.F.slot_str_join PySem.F.type_str_join wE iW (aa (du ["_law_row"] [4] rfl (bv.of (by kernel_rfl)) (by kernel_rfl) (CS rfl nb.reversed (aa (al 0) ad))
    (λ_ _ _ _=>(av (i:=0) (by show(["_law_row","_law_column"]:List Str).Nodup;decide +kernel) rfl (Or.inl rfl))) (λ_ _ _ _=>cD) (λ_ _ _ _=>(aD jv (al 0) (al 1) (λ_ _=>rfl)))) ad)) ad)))))
   (ai (aB (i:=0) sc.nd rfl (Or.inl rfl) (al 3))))))
   (ai (aG (cw cg rfl nb.list fW (aa (al 0) ad)))))),?_⟩
  refine aj λN2 h2=>?_;have loop:∀(l2:Addr) (p':bz) (H2:Hp) (y1 y2 y3:Option V),H2 l2=some (.lst (aH p'))->az H H2->e_ p' r c->turned p t=bL (t%4) p'->N2 [some (V.ref l2),some (V.int t),y1,y2,y3] H2:=by
   intro l2 p' H2 y1 y2 y3 hH2 sm2 hp' et;refine h2 _ _ ?_;clear h2;refine aj λN3 h3=>?_;walk_at "wp";refine⟨⋯,⋯,?_⟩;have e4:((t:Int)%4).toNat=t%4:=by omega
   rw[e4];refine cH (lo:=0) (n:=t%4) (λi σ H3=>∃(l3:Addr) (x1 x2 x3:Option V),σ=[some (V.ref l3),some (V.int t),x1,x2,x3]/\H3 l3=some (.lst (aH (bL i p')))/\az H H3) ⟨l2,_,_,_,rfl,hH2,sm2⟩ ?_ ?_
   ·rintro i σ H3 hi ⟨l3,x1,x2,x3,rfl,h4,sm3⟩
    have hq:=c5 i hp' hr0 hc0;obtain⟨r',c',g3,g4,g5,g6⟩:∃r' c',e_ (bL i p') r' c'/\0<r'/\r'<=64/\c'<=64:=by
     by_cases hi2:i%2=0
     ·rw[if_pos hi2,if_pos hi2]at hq;exact⟨r,c,hq,hr0,hr1,hc1⟩
     ·rw[if_neg hi2,if_neg hi2]at hq;exact⟨c,r,hq,hc0,hc1,hr1⟩
    have hqa:bL (i+1) p'=gb (bL i p'):=(qA 1 i p').symm;generalize bL i p'=pq at h4 g3 hqa;have hl0:0<pq.length:=by rw[g3.1];exact g4
    have hcc:(pq[0]).length=c':=g3.2 _ (Hc hl0);have hh:(pq.headD []).length=c':=bT g3 g4;rw[hqa];walk_at "wp";refine⟨Hs _,λlr hlr=>?_⟩;have s4:=af (o:=.lst []) hlr;have e4:au H3 lr (.lst []) lr=some (.lst []):=ac;generalize au H3 lr (.lst [])=H4 at s4 e4 ⊢;have h0:dY (aH pq) 0=some (V.str (tx pq[0])):=(show dY _ ((0:Nat):Int)=_ from br (bw hl0));refine⟨_,aN.of (s4 _ _ h4),_,h0,_,rfl,by rw[aw];exact am ⋯,by rw[aw];omega,by rw[aw];omega,?_⟩;rw[aw,hcc,Int.toNat_natCast];refine cH (lo:=0) (n:=c') (λj σ H5=>az H3 H5/\j<=c'/\H5 lr=some (.lst (aH ((List.range j).map (col pq))))/\∃y,σ=[some (V.ref l3),some (V.int t),some (V.int (i:Int)),some (V.ref lr),y]) ⟨s4,Hs _,e4,_,rfl⟩ ?_ ?_
    ·rintro j σ H5 hj ⟨s5,_,e5,y,rfl⟩
     have hl35:=s5 _ _ h4;walk_at "wp";have hrow:∀x∈pq,x.length=c':=g3.2;have hpq:pq.length<=64:=by rw[g3.1];exact g5
     refine⟨.inl ⟨rfl,_,aN.of e5⟩,rfl,_,aN.of hl35,zj (xs:=aH pq) (λn acc σ H'=>H'=H5/\acc=((pq.reverse.take n).map λr=>V.str ⟨#[r.getD j 0]⟩)/\n<=pq.length/\∃x,σ=[x,some (.int (j:Int))]) ⟨rfl,rfl,Hs _,_,rfl⟩ ?_ ?_ ?_ ?_ ?_⟩
     ·rintro n acc σ H' ⟨_,rfl,_⟩
      refine bb ?_;rw[G7,HF,Hk];omega
     ·rintro n acc σ H' ⟨_,_,h,_⟩
      rw[aC];exact h
     ·rintro n acc σ H' ⟨rfl,_⟩
      exact aN.of hl35
     ·rintro n x acc σ H' hx ⟨rfl,rfl,hn,y,rfl⟩
      have hl:n<pq.reverse.length:=by
       have:=(G5.mp hx).1
       rwa [Hk,aC,<- Hk (as:=pq)]at this
      have hx':(aH pq.reverse)[n]?=some x:=by unfold aH at hx ⊢;rwa [List.map_reverse]
      rw[bw hl]at hx';cases hx';have hm:pq.reverse[n]∈pq:=List.mem_reverse.mp (Hc hl);have hr:=hrow _ hm;walk_at "wp";have hc:(tx pq.reverse[n]).cps.toList[j]?=some (pq.reverse[n].getD j 0):=by rw[dO,List.getD_eq_getElem?_getD,G4 ⋯];rfl
      refine⟨by rw[aw];exact am ⋯,_,br hc,?_,by rw[Hk]at hl;exact hl⟩;rw[List.take_add_one,G4 hl,Hf]
      rfl
     ·rintro acc σ H' ⟨rfl,rfl,_⟩ l hl
      rw[aC,<- Hk (as:=pq),HE]at *;refine⟨(col pq j).map λc=>(⟨#[c]⟩:Str),.inl (aN.of ?_),?_,_,af hl _ _ e5,?_,?_,hj,?_⟩
      ·rw[ac];unfold col;rw[Hh,Hh];rfl
      ·rw[Hh]
       have e:((λy:Str=>y.length)∘λc=>(⟨#[c]⟩:Str))=λ_=>1:=by funext c;rfl
       rw[e,List.map_const',List.sum_replicate_nat,G7];have e0:(Str.ofString "").length=0:=rfl;rw[e0];unfold col;rw[G7];omega
      ·rw[aC,G7,List.length_range];exact bb ⋯
      ·exact dI (s5.trans (af hl)) hlr
      ·rw[ac,lQ,List.range_succ,Hf]
       exact congrArg (λz=>some (HO.lst z)) (k8 _ _).symm
    ·rintro σ H5 ⟨s5,_,e5,y,rfl⟩
     walk_at "wp";refine⟨?_,sm3.trans s5⟩;rw[e5];unfold gb;rw[hh]
   ·rintro σ H3 ⟨l3,x1,x2,x3,rfl,h4,sm3⟩
    refine h3 _ _ ?_;walk_at "wp";exact⟨_,.inl (aN.of h4),λl hl=>q l _ (sm3.free hl) (by rw[ac,et]) (sm3.trans (af hl))⟩
  walk_at "wp";have hpl:p.length=r:=hp.1
  split
  ·rename_i h4
   refine⟨⟨_,aN.of hS⟩,?_⟩;refine dJ (as:=p) (emb:=λx=>V.str (tx x)) (f:=λx=>some (V.str (tx x.reverse))) (λσ=>∃x,σ=[x]) ⟨_,rfl⟩ (λH' sm=>aN.of (sm _ _ hS)) ⋯ ?_ ?_
   ·rintro i x hx σ H' M1 M0 ⟨y,rfl⟩ sm k1 k0
    walk_at "wp";have hxl:x.length=c:=hp.2 x (G_ hx);refine⟨by rw[aw];omega,nofun,k1 _ _ _ ?_ sm ⟨_,rfl⟩⟩;rw[dO,lQ]
   ·intro H' sm l hl
    rw[lj];have em:p.map (λx=>V.str (tx x.reverse))=aH (jh p):=by unfold aH jh;rw[Hh];rfl
    rw[em];refine loop l (jh p) _ _ _ _ ac (sm.trans (af hl)) (ja hp) ?_;unfold turned;rw[if_pos ⋯]
  ·rename_i h4
   refine loop a p H _ _ _ hS (az.refl _) hp ?_;unfold turned;rw[if_neg ⋯]
noncomputable abbrev kJ:Stmt:=kD 55
inductive jg(vs:List V)(H:Hp)(Q:VK)(_E:XK):Prop
 |mk (a b:Addr) (p q:bz) (r c r' c':Nat) (sd:Bool) (mo:Int) (_:vs=[.ref a,.ref b,.bl sd,.int mo]) (_:H a=some (.lst (aH p))) (_:H b=some (.lst (aH q))) (_:fk p r c) (_:fk q r' c') (_:mo<=6) (_:(∀pc,(∀v:RV,fS (if sd then 1 else 2) v [p,q]=some pc)->c7 H pc Q)) (_:∀H',(mo=6->∀v:RV,fS (if sd then 1 else 2) v [p,q]=none)->az H H'->Q .non H')
theorem tS:ay ["_law_one","_law_other","_law_side","_law_most"] ["_law_one","_law_other","_law_side","_law_most"] (ak kJ):=by walk_at "c"
theorem t_{f:Addr}{fd:Ie}(F:cY K "_law_joined" "_law_joined" kJ f fd)(nb:NB mg):aZ P w K mg base bF 1 f fd ["_law_one","_law_other","_law_side","_law_most"] jg:=by
 have sc:=tS;walk_at "f"
 ·obtain⟨a,b,p,q,r,c,r',c',sd,mo,rfl,_⟩:=h;rfl
 ·obtain⟨a,b,p,q,r,c,r',c',sd,mo,rfl,ha,hb,hp6,hq6,hmo,fit,no⟩:=h
  have hp:=hp6.rc;have hq:=hq6.rc;have:=hp6.r6;have:=hp6.c6;have:=hq6.r6;have:=hq6.c6;have e1:=bT hp hp6.r0;have e2:=bT hq hq6.r0;refine⟨_,(ae (bj (PW.pt (kC (iy (al 2) λ_=>rfl) (kC (aE cI (ax aU rfl nb.len aR (aa (al 0) ad)) (ax aU rfl nb.len aR (aa (al 1) ad)) (aI _)) (kX (aE (aW.m0 nR) (ar (aW.m0 bN) (ax aS rfl nb.len aR (aa (aD bi (al 0) ah (λ_ _=>rfl)) ad)) (ax aS rfl nb.len aR (aa (aD bi (al 1) ah (λ_ _=>rfl)) ad))) (al 3) (aI _))))))
   (ai (aG (du ["_law_left","_law_right"] [] rfl (bv.of (by kernel_rfl)) (by kernel_rfl) (Cm rfl nb.zip (aa (al 0) (aa (al 1) ad)))
    (λ_ _ _ _=>(qD (K:=K) (n:=2) rfl rfl (aL (av (i:=0) (by show(["_law_left","_law_right"]:List Str).Nodup;decide +kernel) rfl (Or.inl rfl)) (aL (av (i:=1) (by show(["_law_left","_law_right"]:List Str).Nodup;decide +kernel) rfl (Or.inl rfl)) c_)))) (λ_ _ _ _=>cD) (λ_ _ _ _=>(ar fD (al 0) (al 1))))))
   aJ)
   (ae (bj (PW.pt (kC (kF (iy (al 2) λ_=>rfl)) (kC (aE cI (ax aS rfl nb.len aR (aa (aD bi (al 0) ah (λ_ _=>rfl)) ad)) (ax aS rfl nb.len aR (aa (aD bi (al 1) ah (λ_ _=>rfl)) ad)) (aI _)) (kX (aE (aW.m0 nR) (ar (aW.m0 bN) (ax aU rfl nb.len aR (aa (al 0) ad)) (ax aU rfl nb.len aR (aa (al 1) ad))) (al 3) (aI _))))))
   (ai (aG (ar yB (cw cg rfl nb.list fW (aa (al 0) ad)) (cw cg rfl nb.list fW (aa (al 1) ad)))))
   aJ)
   (ai (aG lW)))),?_⟩
  obtain⟨hl0,hc0⟩:=jk hp hp6.r0;obtain⟨hl0',hc0'⟩:=jk hq hq6.r0;have yax:p.length=r:=hp.1;have ya3:q.length=r':=hq.1;have h0:dY (aH p) 0=some (V.str (tx p[0])):=(show dY _ ((0:Nat):Int)=_ from br (bw hl0));have h0':dY (aH q) 0=some (V.str (tx q[0])):=(show dY _ ((0:Nat):Int)=_ from br (bw hl0'));refine aj λN1 h1=>?_;have dD:(sd=true->mo=6->∀v:RV,fS (if sd then 1 else 2) v [p,q]=none)->N1 [some (V.ref a),some (V.ref b),some (V.bl sd),some (V.int mo)] H:=λhn=>by
   refine h1 _ _ ?_;clear h1;refine aj λN1 h1=>?_;have dD:(mo=6->∀v:RV,fS (if sd then 1 else 2) v [p,q]=none)->N1 [some (V.ref a),some (V.ref b),some (V.bl sd),some (V.int mo)] H:=λhn=>by
    refine h1 _ _ ?_;walk_at "wp";exact no H hn (az.refl _)
   clear h1;walk_at "wp";cases sd with
   |true=>rw[if_neg nofun];exact dD (hn rfl)
   |false=>
    rw[if_pos rfl];refine⟨_,aN.of ha,_,h0,_,rfl,by rw[aw];exact am ⋯,_,aN.of hb,_,h0',_,rfl,by rw[aw];exact am ⋯,?_⟩;rw[aw,aw,hc0,hc0'];refine cC (λt1=>?_) (λt9=>dD (λh6 v=>by show(if(p.headD []).length=(q.headD []).length/\p.length+q.length<=6 then some (p++q) else none)=none;rw[e1,e2,if_neg ⋯]));refine⟨_,aN.of ha,_,aN.of hb,?_⟩;rw[aC,aC,yax,ya3];refine cC (λt2=>?_) (λt9=>dD (λh6 v=>by show(if(p.headD []).length=(q.headD []).length/\p.length+q.length<=6 then some (p++q) else none)=none;rw[e1,e2,if_neg ⋯]));refine⟨_,.inl (aN.of ha),λl hl=>⟨_,.inl (aN.of (af hl _ _ hb)),λl1 hl1=>⟨_,af hl1 _ _ ac,_,ac,?_,λl2 hl2=>?_⟩⟩⟩
    ·rw[aC,aC];exact am ⋯
    have s3:=(af (o:=.lst (aH p)) hl).trans (af (o:=.lst (aH q)) hl1);refine fit (p++q) (λv=>?_) l2 _ (kW s3 hl2) ?_ (s3.trans (af hl2))
    ·show(if(p.headD []).length=(q.headD []).length/\p.length+q.length<=6 then some (p++q) else none)=some (p++q)
     rw[e1,e2,if_pos ⋯]
    ·rw[ac];unfold aH;rw[Hf]
  clear h1;walk_at "wp";cases sd with
  |false=>rw[if_neg nofun];exact dD (λh=>nomatch h)
  |true=>
   rw[if_pos rfl];refine⟨_,aN.of ha,_,aN.of hb,?_⟩;rw[aC,aC,yax,ya3];refine cC (λt1=>?_) (λt9=>dD (λ_ h6 v=>by show(if p.length=q.length/\(p.headD []).length+(q.headD []).length<=6 then some (put2 p q) else none)=none;rw[e1,e2,if_neg ⋯]));refine⟨_,aN.of ha,_,h0,_,rfl,by rw[aw];exact am ⋯,_,aN.of hb,_,h0',_,rfl,by rw[aw];exact am ⋯,?_⟩;rw[aw,aw,hc0,hc0'];refine cC (λt2=>?_) (λt9=>dD (λ_ h6 v=>by show(if p.length=q.length/\(p.headD []).length+(q.headD []).length<=6 then some (put2 p q) else none)=none;rw[e1,e2,if_neg ⋯]));refine⟨_,aN.of ha,_,aN.of hb,?_⟩;have hqr:q.length=r:=by omega
   have hput:(put2 p q).length=r:=by unfold put2;rw[G7,List.length_zip,yax,hqr,Nat.min_self]
   refine zm (xs:=aH p) (ys:=aH q) (n:=r) (by rw[aC,aC,yax,hqr,Nat.min_self]) (λi acc σ H'=>az H H'/\acc=aH ((put2 p q).take i)/\i<=r/\∃y z,σ=[y,z]) ⟨λ_ _ e=>e,rfl,Hs _,_,_,rfl⟩ ?_ ?_ ?_ ?_ ?_
   ·rintro i acc σ H' ⟨_,rfl,hi,_⟩
    rw[aC,HF];exact bb ⋯
   ·rintro i acc σ H' ⟨_,_,h,_⟩
    exact h
   ·rintro i acc σ H' ⟨sm,_⟩
    exact⟨aN.of (sm _ _ ha),aN.of (sm _ _ hb)⟩
   ·rintro i x y acc σ H' T hx hy ⟨sm,rfl,_,y1,z1,rfl⟩ hT
    have hi:i<p.length:=by have:=(G5.mp hx).1;rwa [aC]at this
    have hi':i<q.length:=by omega
    rw[bw hi]at hx;rw[bw hi']at hy;cases hx;cases hy;have hrow:=hp.2 _ (Hc hi);have hrow':=hq.2 _ (Hc hi');walk_at "wp";refine⟨_,bx.of ac,rfl,_,_,rfl,_,_,rfl,rfl,?_⟩;have e:(put2 p q)[i]?=some (p[i]++q[i]):=by
     unfold put2;simp[List.getElem?_zip_eq_some,hi,hi'];exact⟨_,_,⟨rfl,rfl⟩,rfl⟩
    have et:tx p[i]++tx q[i]=tx (p[i]++q[i]):=by
     show(⟨_++_⟩:Str)=⟨_⟩;simp[tx]
    refine⟨_,rfl,_,rfl,by rw[aw,aw];exact am ⋯,sm.trans (af hT),?_,⋯⟩;rw[et,List.take_add_one,e];exact(k8 _ _).symm
   ·rintro acc σ H' ⟨sm,rfl,_⟩ l hl
    refine fit (put2 p q) (λv=>?_) l _ (sm.free hl) ?_ (sm.trans (af hl))
    ·show(if p.length=q.length/\(p.headD []).length+(q.headD []).length<=6 then some (put2 p q) else none)=some (put2 p q)
     rw[e1,e2,if_pos ⋯]
    ·rw[ac,<- hput,HE]
noncomputable abbrev lS:Stmt:=kD 56
inductive m9(vs:List V)(H:Hp)(Q:VK)(_E:XK):Prop
 |mk (l t:Addr) (b:Int) (ts:Ib) (rs:Yaa) (r:Nat×RV) (_:vs=[.ref l,.ref t,.int b]) (_:dA H l ts rs) (_:(∀x∈rs,x.1<4)) (_:H t=some (.tup (fh r))) (_:r.1<4) (_:rs.length<24) (_:(∀(k:Nat) r' H',0<b->rs[k]?=some r'->mq r' r->az H H'->Q (.int (k:Int)) H')) (_:(∀H0,az H H0->Q (.int (rs.length:Int)) (au H0 l (.lst (ts.map V.ref++[V.ref t])))))
theorem u4:ay ["_law_rules","_law_wanted","_law_again","_law_some"] ["_law_rules","_law_wanted","_law_again"] (ak lS):=by walk_at "c"
theorem uV{f:Addr}{fd:Ie}(F:cY K "_law_noted" "_law_noted" lS f fd)(nb:NB mg):aZ P w K mg base bF 1 f fd ["_law_rules","_law_wanted","_law_again"] m9:=by
 have sc:=u4;walk_at "f"
 ·obtain⟨l,t,b,ts,rs,r,rfl,_⟩:=h;rfl
 ·obtain⟨l,t,b,ts,rs,r,rfl,hrs,hk4,ht,hr4,hl24,q1,q3⟩:=h
  have hu:=hr.units;refine⟨_,(ae (dM (i:=3) ["_law_k","_law_rule_here"] [1] sc.nd rfl (Or.inl rfl) rfl  rfl (bv.of (by kernel_rfl)) (by kernel_rfl) (rg rfl nb.enumerate (aa (al 0) ad))
    (λ_ _ _ _=>(qD (K:=K) (n:=2) rfl rfl (aL (av (i:=0) (by show(["_law_k","_law_rule_here","_law_wanted"]:List Str).Nodup;decide +kernel) rfl (Or.inl rfl)) (aL (av (i:=1) (by show(["_law_k","_law_rule_here","_law_wanted"]:List Str).Nodup;decide +kernel) rfl (Or.inl rfl)) c_)))) (λ_ _ _ _=>(qX (aE (BF (K:=K) rfl hu) (fH (wG (K:=K) rfl) (al 1) (fR ah) jB) (fH (wG (K:=K) rfl) (al 2) (fR ah) jB) (aI _)))) (λ_ _ _ _=>(al 0)))
   (ae (bj (PW.pt (kC (aE (aW.m0 ju) (al 2) ah (aI _)) (kX (aE (aW.m0 ju) (ax aU rfl nb.len aR (aa (al 3) ad)) ah (aI _)))))
   (ai (aG (aD bi (al 3) (ar (aW.m1 aQ) (ar (aW.m0 dc) (al 2) ah) (ax aU rfl nb.len aR (aa (al 3) ad))) (λ_ _=>rfl))))
   aJ)
   (ae (bu (gX PySem.F.plainAttrs_list PySem.F.slot_list_append PySem.F.type_list_append cA (al 0) (aa (al 1) ad)))
   (ai (aG (ar (aW.m0 dc) (ax aU rfl nb.len aR (aa (al 0) ad)) ah)))))),?_⟩
  walk_at "n";refine⟨_,aN.of hrs.1,?_⟩;refine uA (as:=ts.zip rs) (emb:=λx=>V.ref x.1) (f:=λi x=>if iV (cN x.2) (cN r)=true then some (V.int (i:Int)) else none) (λσ=>∃x y,σ=[x,y,some (V.ref t)]) ⟨_,_,rfl⟩ (λH' s'=>?_) (by rw[List.length_zip,hrs.2.1];omega) ?_ ?_
  ·have z1:(ts.zip rs).map (λx=>V.ref x.1)=ts.map V.ref:=by
    have e:=Hh (f:=Prod.fst) (g:=V.ref) (l:=ts.zip rs);rw[List.map_fst_zip (by have:=hrs.2.1;omega)]at e;exact e.symm
   rw[z1];exact aN.of (s' _ _ hrs.1)
  ·rintro i ⟨ti,r'⟩ hx σ H' T M1 M0 ⟨y,z,rfl⟩ sm hT k1 k0
   obtain⟨hti,hr'⟩:=List.getElem?_zip_eq_some.mp hx;walk_at "wp";have hri:=sm _ _ (hrs.2.2 i ti r' hti hr');have sT:=af (o:=.tup [V.int (i:Int),V.ref ti]) hT;have hTT:au H' T (.tup [V.int (i:Int),V.ref ti]) T=some (.tup [V.int (i:Int),V.ref ti]):=ac;generalize au H' T (.tup [V.int (i:Int),V.ref ti])=H1 at sT hTT ⊢;have sm1:=sm.trans sT;refine⟨_,bx.of hTT,rfl,_,_,rfl,_,_,rfl,rfl,ti,rfl,_,bx.of (sT _ _ hri),sF r',λc1 hc1=>?_⟩;rw[pE];have sC:=af (o:=.tup (cN r')) hc1;refine⟨_,bx.of (sC _ _ (sm1 _ _ ht)),sF r,λc2 hc2=>?_⟩;rw[pE];have sD:=af (o:=.tup (cN r)) hc2;refine⟨_,bx.of (sD _ _ ac),_,bx.of ac,nq r',nq r,?_⟩;have sE:=(sm1.trans sC).trans sD
   by_cases he:iV (cN r') (cN r)=true
   ·rw[if_pos he]
    exact k1 _ _ _ (if_pos he) sE ⟨_,_,rfl⟩
   ·rw[if_neg he];exact k0 _ _ (if_neg he) sE ⟨_,_,rfl⟩
  ·intro H' sm ls hls
   have hmem:∀y∈(ts.zip rs).zipIdx.filterMap (λx=>if iV (cN x.1.2) (cN r)=true then some (V.int (x.2:Int)) else none),∃(k:Nat) (r':Nat×RV),y=V.int (k:Int)/\rs[k]?=some r'/\mq r' r:=λy hy=>by
    obtain⟨⟨⟨t',r'⟩,k⟩,hx,hf⟩:=List.mem_filterMap.mp hy;have hx2:=List.mem_zipIdx_iff_getElem?.mp hx;obtain⟨_,hr'⟩:=List.getElem?_zip_eq_some.mp hx2
    by_cases he:iV (cN r') (cN r)=true
    ·have hf':(if iV (cN r') (cN r)=true then some (V.int (k:Int)) else none)=some y:=hf
     rw[if_pos he]at hf';exact⟨k,r',(Option.some.inj hf').symm,hr',zP (hk4 _ (G_ hr')) hr4 he⟩
    ·have hf':(if iV (cN r') (cN r)=true then some (V.int (k:Int)) else none)=some y:=hf
     rw[if_neg he]at hf';cases hf'
   have hln:((ts.zip rs).zipIdx.filterMap (λx=>if iV (cN x.1.2) (cN r)=true then some (V.int (x.2:Int)) else none)).length<=24:=by
    refine Hy (List.length_filterMap_le ..) ?_;rw[List.length_zipIdx,List.length_zip];omega
   generalize(ts.zip rs).zipIdx.filterMap (λx=>if iV (cN x.1.2) (cN r)=true then some (V.int (x.2:Int)) else none)=ys at hmem hln ⊢;refine h1 _ _ ?_;clear h1;have s1:=sm.trans (af (o:=.lst ys) hls);have e1:au H' ls (.lst ys) ls=some (.lst ys):=ac;generalize au H' ls (.lst ys)=H1 at s1 e1 ⊢;refine aj λN1 h1=>?_;have fin:N1 [some (V.ref l),some (V.ref t),some (V.int b),some (V.ref ls)] H1:=by
    refine h1 _ _ ?_;walk_at "wp";have hl':=s1 _ _ hrs.1;have hlen:(ts.map V.ref).length=rs.length:=by rw[G7];exact hrs.2.1
    refine⟨.inl ⟨rfl,_,aN.of hl'⟩,_,hl',?_,_,aN.of ac,?_⟩
    ·rw[hlen];exact bb ⋯
    ·have:=q3 H1 s1
     rw[Hq,hlen];rw[show(((rs.length+[V.ref t].length:Nat):Int)-1)=(rs.length:Int) by simp];exact this
   walk_at "wp";refine gS (λhb=>⟨_,aN.of e1,gS (λhn=>?_) (λ_=>fin)⟩) (λ_=>fin);obtain⟨v,hv,ev⟩:=qv (xs:=ys) (HP (b-1) (show(ys.length:Int)≠0 by omega)) (HQ _ ⋯);obtain⟨k,r',rfl,hk,has⟩:=hmem v hv;exact⟨_,aN.of e1,hn,_,aN.of e1,_,ev,q1 k r' _ hb hk has s1⟩
noncomputable abbrev rG:Stmt:=kD 57
inductive lA(vs:List V)(H:Hp)(Q:VK)(_E:XK):Prop
 |mk (lr ls tw la tm lq:Addr) (b:Int) (ts:Ib) (rs:Yaa) (zs ys:List FI) (r:Nat×RV) (pc:bz) (p:bz) (sg:HY) (lim:Int) (_:vs=[.ref lr,.ref ls,.ref tw,.int b,.ref la,.ref tm]) (_:GS H p sg lim lr ls ts rs zs) (_:H tw=some (.tup (fh r))) (_:fo p sg r) (_:rs.length<24) (_:zs.length<=100) (_:H la=some (.lst (ys.map λz=>V.ref z.a))) (_:la≠lr) (_:la≠ls) (_:(∀y∈ys,y∈zs)) (_:H tm=some (.tup [.ref lq,.int lim])) (_:H lq=some (.lst (aH pc))) (_:pc≠[]) (_:Nx r (ys.map FI.x) pc) (_:∀H' ts' rs' zs',GS H' p sg lim lr ls ts' rs' zs'->zE lr ls H H'->rs'.length<=rs.length+1->zs'.length<=zs.length+1->(zs≠[]\/(b<=0/\r.1=0/\r.2.c<=lim)->zs'≠[])->Q .non H')
theorem Aw:ay ["_law_rules","_law_stock","_law_wanted","_law_again","_law_parts","_law_made","_law_k","_law_cost_here"] ["_law_rules","_law_stock","_law_wanted","_law_again","_law_parts","_law_made"] (ak rG):=by walk_at "c"
theorem wz(r:Nat×RV):dY (fh r) 0=some (.str (tx r.2.n))/\dY (fh r) 1=some (.int r.2.c):=by
 obtain⟨k,v⟩:=r
 match k with
 |0=>exact⟨rfl,rfl⟩
 |1=>exact⟨rfl,rfl⟩
 |2=>exact⟨rfl,rfl⟩
 |k+3=>exact⟨rfl,rfl⟩
theorem Nx.cell0{r:Nat×RV}{ys:List SI}{pc:bz}(h:Nx r ys pc)(h1:r.1=0):ys=[]:=by
 cases h with
 |cell _=>rfl
 |turn e=>rw[h1]at e;cases e
 |pair e=>rw[h1]at e;rcases e with e | e<;>cases e
theorem nZ{H:Hp}:∀{ys:List FI},(∀z∈ys,z.at H)->bC H (((ys.map FI.x).map SI.t).map bI.d) (ys.map λz=>z.v)
 | [],_=>by unfold bC;rfl
 |z::ys,h=>by
  show bC H (z.x.t.d::_) (z.v::_);exact bC.cons (h z List.mem_cons_self).2.1 (nZ λy hy=>h y (Hj _ hy))
theorem zi{f:Addr}{fd:Ie}(F:cY K "_law_put" "_law_put" rG f fd)(nb:NB mg)(yag:mg "sum"=none)(zFe:fF P w K mg base bF 1 "_law_noted" ["_law_rules","_law_wanted","_law_again"] m9):aZ P w K mg base bF 2 f fd ["_law_rules","_law_stock","_law_wanted","_law_again","_law_parts","_law_made"] lA:=by
 have sc:=Aw;walk_at "f"
 ·obtain⟨lr,ls,tw,la,tm,lq,b,ts,rs,zs,ys,r,pc,p,sg,lim,rfl,_⟩:=h;rfl
 ·obtain⟨lr,ls,tw,la,tm,lq,b,ts,rs,zs,ys,r,pc,p,sg,lim,rfl,g,htw,hro,h24,hz100,hla,nla,nls,hys,htm,hlq,hpc,nx,q⟩:=h
  have hu:=hr.units;refine⟨_,(ae (aB (i:=6) sc.nd rfl (Or.inl rfl) (aK zFe (hr.mono nofun) rfl bg (aa (al 0) (aa (al 2) (aa (al 3) ad)))))
   (ae (aB (i:=7) sc.nd rfl (Or.inl rfl) (ar (aW.m0 bN) (aD aF (aD bi (al 0) (al 6) (λ_ _=>rfl)) ah (λ_ _=>rfl)) (ax (lR rfl) rfl yag uE (aa (du ["_law_part"] [] rfl (bv.of (by kernel_rfl)) (by kernel_rfl) (bX (al 4))
    (λ_ _ _ _=>(av (i:=0) (by show(["_law_part"]:List Str).Nodup;decide +kernel) rfl (Or.inl rfl))) (λ_ _ _ _=>cD) (λ_ _ _ _=>(aD (k6 (K:=K) rfl) (al 0) ah (λ_ _=>rfl)))) ad))))
   (ai (bj (aE (aW.m0 nR) (al 7) (aD aF (al 5) ah (λ_ _=>rfl)) (aI _))
   (ai (bu (gX PySem.F.plainAttrs_list PySem.F.slot_list_append PySem.F.type_list_append cA (al 1) (aa (aY (aa (ar il (aY (aa (al 6) ad)) (cw o6 rfl nb.tuple zw (aa (du ["_law_part"] [] rfl (bv.of (by kernel_rfl)) (by kernel_rfl) (bX (al 4))
    (λ_ _ _ _=>(av (i:=0) (by show(["_law_part"]:List Str).Nodup;decide +kernel) rfl (Or.inl rfl))) (λ_ _ _ _=>cD) (λ_ _ _ _=>(aD (k6 (K:=K) rfl) (al 0) ah (λ_ _=>rfl)))) ad))) (aa (aD aF (aD bi (al 0) (al 6) (λ_ _=>rfl)) ah (λ_ _=>rfl)) (aa (aD aF (al 5) ah (λ_ _=>rfl)) (aa (al 7) ad))))) ad))))
   aJ)))),?_⟩
  refine aj λN1 h1=>?_;have go:∀(k:Nat) (r':Nat×RV) (ts':Ib) (rs':Yaa) (H1:Hp),GS H1 p sg lim lr ls ts' rs' zs->rs'[k]?=some r'->mq r' r->rs'.length<=rs.length+1->dR lr H H1->(b<=0->r'=r)->N1 [some (V.ref lr),some (V.ref ls),some (V.ref tw),some (V.int b),some (V.ref la),some (V.ref tm),some (V.int (k:Int)),none] H1:=by
   intro k r' ts' rs' H1 g1 hk has hlen hE hnew;refine h1 _ _ ?_;clear h1;have hla1:=hE _ _ nla hla;have htm1:=hE.tups g.rows.1 _ _ htm;have hlq1:=hE _ _ (y_ g.rows.1 hlq hpc) hlq;have hyl:=nx.ne;rw[G7]at hyl;obtain⟨tk,htk⟩:∃tk,ts'[k]?=some tk:=⟨_,G4 (by have:=(G5.mp hk).1;have:=g1.rows.2.1;omega)⟩;have eat:dY (ts'.map V.ref) (k:Int)=some (V.ref tk):=br (by rw[G9,htk];rfl);have hrow:=g1.rows.2.2 k tk r' htk hk;walk_at "n";have hya:∀y∈ys,y.at H1:=λy hy=>g1.at_ y (hys y hy);refine⟨_,aN.of g1.rows.1,_,eat,_,rfl,_,bx.of hrow,_,(wz r').2,⟨_,aN.of hla1⟩,?_⟩;refine dJ (as:=ys) (emb:=λz=>V.ref z.a) (f:=λz=>some (V.int z.x.c)) (λσ=>∃x,σ=[x]) ⟨_,rfl⟩ (λH' s=>aN.of (s _ _ hla1)) ⋯ ?_ ?_
   ·rintro i z hz σ H' M1 M0 ⟨y,rfl⟩ sm k1 k0
    walk_at "wp";exact⟨_,bx.of (sm _ _ (hya z (G_ hz)).1),_,rfl,k1 _ _ _ rfl sm ⟨_,rfl⟩⟩
   intro H2 s2 l hl;rw[lj];refine⟨ys.map λz=>z.x.c,by rw[Hh];exact aN.of ac,_,rfl,h1 _ _ ?_⟩;clear h1;have s3:=s2.trans (af (o:=.lst (ys.map λz=>V.int z.x.c)) hl);generalize au H2 l (.lst (ys.map λz=>V.int z.x.c))=H3 at s3 ⊢;clear s2 hl H2;have g3:=g1.up s3;have hsum:(ys.map λz=>z.x.c).sum=((ys.map FI.x).map SI.c).sum:=by rw[Hh];rfl
   have hsd:=nx.sd (λr hr=>(g1.ro r hr).good) hk has λy hy=>by
    obtain⟨z,hz,rfl⟩:=HJ.mp hy;exact(g1.good z (hys z hz)).sd
   rw[hsum];generalize hcost:r'.2.c+((ys.map FI.x).map SI.c).sum=cost at hsd ⊢;have hB:∀{H4},az H3 H4->zE lr ls H H4:=λs4 y u n1 _ e=>s4 _ _ (s3 _ _ (hE y u n1 e));walk_at "wp";refine⟨_,bx.of (s3 _ _ htm1),_,rfl,_,rfl,?_⟩;refine cC (λt1=>?_) (λt1=>?_)
   ·refine⟨.inl ⟨rfl,_,aN.of g3.st⟩,am nofun,λp1 hp1=>?_⟩
    have s4:=af (o:=.tup [V.int (k:Int)]) hp1;have e4:au H3 p1 (.tup [V.int (k:Int)]) p1=some (.tup [V.int (k:Int)]):=ac;generalize au H3 p1 (.tup [V.int (k:Int)])=H4 at s4 e4 ⊢;have s34:=s3.trans s4;refine⟨⟨_,aN.of (s34 _ _ hla1)⟩,?_⟩;refine dJ (as:=ys) (emb:=λz=>V.ref z.a) (f:=λz=>some z.v) (λσ=>∃x,σ=[x]) ⟨_,rfl⟩ (λH' s=>aN.of (s _ _ (s34 _ _ hla1))) ⋯ ?_ ?_
    ·rintro i z hz σ H' M1 M0 ⟨y,rfl⟩ sm k1 k0
     walk_at "wp";exact⟨_,bx.of (sm _ _ (s34 _ _ (hya z (G_ hz)).1)),_,rfl,k1 _ _ _ rfl sm ⟨_,rfl⟩⟩
    intro H5 s5 l hl;rw[lj];refine⟨_,.inl ⟨aN.of ac,λl4 hl4=>?_⟩⟩;have sB:=(af (o:=.lst (ys.map λz=>z.v)) hl).trans (af (o:=.tup (ys.map λz=>z.v)) hl4);refine xG (sB _ _ (s5 _ _ e4)) ac (by simp) (by simp;omega) λtr H6 htr s6=>?_;have s16:=s34.trans ((s5.trans sB).trans s6);have g6:=g1.up s16;refine⟨_,aN.of g6.rows.1,_,eat,_,rfl,_,bx.of (s16 _ _ hrow),_,(wz r').1,_,bx.of (s16 _ _ htm1),_,rfl,am nofun,λnp hnp=>?_⟩;have s7:=af (o:=.tup [V.ref tr,V.str (tx r'.2.n),V.ref lq,V.int cost]) hnp;have e7:au H6 np (.tup [V.ref tr,V.str (tx r'.2.n),V.ref lq,V.int cost]) np=some (.tup [V.ref tr,V.str (tx r'.2.n),V.ref lq,V.int cost]):=ac;generalize au H6 np (.tup [V.ref tr,V.str (tx r'.2.n),V.ref lq,V.int cost])=H7 at s7 e7 ⊢;have s17:=s16.trans s7;have g7:=g1.up s17;have itm:FI.at ⟨np,V.ref tr,lq,⟨zV (k:Int) ((ys.map FI.x).map SI.t),r'.2.n,pc,cost⟩⟩ H7:=by
     refine⟨e7,?_,s17 _ _ hlq1,hpc⟩;refine bI.of (vs:=ys.map λz=>z.v) ?_ ?_
     ·show H7 tr=some (.tup (.int (zV (k:Int) ((ys.map FI.x).map SI.t)).i::_))
      rw[DB];exact s7 _ _ htr
     ·show bC H7 ((zV (k:Int) ((ys.map FI.x).map SI.t)).ps.map bI.d) _
      rw[CY _ (by simp;omega)];exact nZ λz hz=>((hya z hz).up s17)
    have gd:zW rs' p lim ⟨zV (k:Int) ((ys.map FI.x).map SI.t),r'.2.n,pc,cost⟩:=⟨hsd,(g1.ro _ (G_ hk)).n,t1⟩;refine⟨_,g7.st,by rw[G7];exact bb ⋯,?_⟩;exact q _ ts' rs' _ (g7.item itm gd) (λy u n1 n2 e=>by rw[ao n2];exact s17 _ _ (hE y u n1 e)) hlen (by simp) (λ_=>by simp)
   ·refine q H3 ts' rs' zs g3 (hB (az.refl _)) hlen ⋯ λh=>?_
    rcases h with h | ⟨h0,h1,h2⟩
    ·exact h
    ·refine absurd ?_ t1
     have er:=hnew h0;subst er;rw[<- hcost];rw[nx.cell0 h1]
     simpa using h2
  clear h1;walk_at "wp";refine⟨lr,tw,b,ts,rs,r,rfl,g.rows,λx hx=>(g.ro x hx).good.k4,htw,hro.good.k4,h24,λk r' H1 hb0 hk has s1=>?_,λH0 s0=>?_⟩
  ·exact go k r' ts rs H1 (g.up s1) hk has ⋯ (.of s1) (λe=>absurd hb0 ⋯)
  ·exact go rs.length r _ _ _ ((g.up s0).row (s0 _ _ htw) hro) (by simp) (mq.rfl' r) (by simp) ((dR.of s0).trans dR.put) (λ_=>rfl)
noncomputable abbrev ij:Stmt:=kD 58
inductive j8(vs:List V)(H:Hp)(Q:VK)(_E:XK):Prop
 |mk (re co dear side lim:Int) (nm:HY) (td lb:Addr) (p:bz) (sg:HY) (_:vs=[.int re,.str (tx nm),.int co,.ref td]) (_:H td=some (.tup [.str (tx sg),.ref lb,.int dear,.int side,.int lim])) (_:H lb=some (.lst (aH p))) (_:p.length=4) (_:(∀r∈p,cr r=true)) (_:cZ sg=true) (_:nm∈p) (_:1<=co) (_:co<=9) (_:∀t r H',H' t=some (.tup (fh r))->fo p sg r->az H H'->Q (.ref t) H')
theorem oV:ay ["_law_rest","_law_name","_law_cost_here","_law_drawn","_law_signs_here","_law_names_here","_law_one"] ["_law_rest","_law_name","_law_cost_here","_law_drawn"] (ak ij):=by walk_at "c"
theorem pf{f:Addr}{fd:Ie}(F:cY K "_law_any_rule" "_law_any_rule" ij f fd)(nb:NB mg):aZ P w K mg base bF 1 f fd ["_law_rest","_law_name","_law_cost_here","_law_drawn"] j8:=by
 have sc:=oV;walk_at "f"
 ·obtain⟨re,co,dear,side,lim,nm,td,lb,p,sg,rfl,_⟩:=h;rfl
 ·obtain⟨re,co,dear,side,lim,nm,td,lb,p,sg,rfl,htd,hlb,hp4,hpn,hsg,hnm,c1,c9,q⟩:=h
  have hu:=hr.units;refine⟨_,(ae (ng (fH wk (al 3) jB (fR ah)) (gI (n:=2) rfl (aL (av (i:=4) sc.nd rfl (Or.inl rfl)) (aL (av (i:=5) sc.nd rfl (Or.inl rfl)) c_))))
   (ae (aB (i:=6) sc.nd rfl (Or.inl rfl) (aD bi (al 5) (ar (aW.m1 aQ) (ar (aW.m1 a_) (al 0) ah) ah) (λ_ _=>rfl)))
   (ae (bj (aE cI (ar (aW.m1 aQ) (al 0) ah) ah (aI _))
   (ai (aG (aY (aa (al 1) (aa (al 2) (bc (aa (aD jv (al 4) (ar (aW.m1 aQ) (ar (aW.m1 a_) (al 0) ah) (ax aS rfl nb.len aR (aa (al 4) ad))) (λ_ _=>rfl)) (bV ad))))))))
   aJ)
   (ae (bj (aE cI (ar (aW.m1 aQ) (al 0) ah) ah (aI _))
   (ai (aG (aY (aa (al 1) (aa (al 2) (bc (aa (al 6) (aa (ar (aW.m1 aQ) (ar (aW.m1 a_) (al 0) ah) ah) ad))))))))
   aJ)
   (ai (aG (aY (aa (al 1) (aa (al 2) (aa (ar (aW.m1 aQ) (al 0) ah) (aa (al 6) (aa (aD bi (al 5) (ar (aW.m1 aQ) (ar (aW.m1 a_) (al 0) ah) ah) (λ_ _=>rfl)) ad)))))))))))),?_⟩
  have hsl:=ii hsg;have pick:∀x:Int,∃z∈p,dY (aH p) (x%4)=some (V.str (tx z)):=λx=>by
   obtain⟨j,hj⟩:∃j:Nat,x%4=(j:Int):=⟨_,(HR (HP _ ⋯)).symm⟩;have:x%4<4:=HQ _ ⋯;exact⟨p[j]'⋯,Hc _,by rw[hj];exact br (bw ⋯)⟩
  have yar:∀x:Int,∃c∈sg,dY (tx sg).cps.toList (x%(sg.length:Int))=some c:=λx=>by
   rw[dO];exact qv (HP _ ⋯) (HQ _ ⋯)
  have gd:∀(k:Nat) (z1 z2:HY) (ch:Nat) (tt:Int),k<4->z1∈p->z2∈p->ch∈sg->0<=tt->tt<=7->fo p sg (k,⟨nm,co,z1,z2,[ch],tt⟩):=λk z1 z2 ch tt hk h1 h2 h3 t0 t7=>by
   have g:RV.good ⟨nm,co,z1,z2,[ch],tt⟩:=⟨hpn _ hnm,c1,c9,hpn _ h1,hpn _ h2,rV hsg h3,t0,t7⟩;exact⟨⟨hk,g,g.small⟩,hnm,h1,h2,ch,h3,rfl⟩
  walk_at "n";refine⟨_,bx.of htd,λp2 H1 e1 s1=>⟨_,e1,rfl,_,_,rfl,_,_,rfl,rfl,h1 _ _ ?_⟩⟩;walk_at "nc";obtain⟨z1,hz1,pz1⟩:=pick (re/4);refine⟨_,aN.of (s1 _ _ hlb),_,pz1,h1 _ _ ?_⟩;clear h1;obtain⟨c0,hc0,_⟩:=yar 0;walk_at "n";refine gS (λk0=>?_) (λk0=>h1 _ _ ?_)
  ·clear h1
   obtain⟨ch,hch,pch⟩:=yar (re/16);rw[aw];have hs2:sg.length<=sizeLine:=am ⋯;refine⟨hs2,⋯,hs2,ch,pch,am nofun,λtp htp=>q tp (0,⟨nm,co,nm,nm,[ch],0⟩) _ ac (gd 0 _ _ ch _ nofun hnm hnm hch nofun nofun) (s1.trans (af htp))⟩
  walk_at "nc";refine gS (λk3=>?_) (λk3=>h1 _ _ ?_)
  ·clear h1
   refine⟨am nofun,λtp htp=>q tp (3,⟨nm,co,z1,nm,[c0],re/16%8⟩) _ ac (gd 3 _ _ c0 _ nofun hz1 hnm hc0 ⋯ ⋯) (s1.trans (af htp))⟩
  clear h1;walk_at "wp";obtain⟨z2,hz2,pz2⟩:=pick (re/16);obtain⟨k,hk,hk2⟩:∃k:Nat,re%4=(k:Int)/\(k=1\/k=2):=⟨(re%4).toNat,⋯,⋯⟩;rw[hk];refine⟨_,aN.of (s1 _ _ hlb),_,pz2,am nofun,λtp htp=>q tp (k,⟨nm,co,z1,z2,[c0],0⟩) _ (by rw[ac];rcases hk2 with rfl | rfl<;>rfl) (gd k _ _ c0 _ ⋯ hz1 hz2 hc0 nofun nofun) (s1.trans (af htp))⟩
noncomputable abbrev nQ:Stmt:=kD 59
inductive pz(vs:List V)(H:Hp)(Q:VK)(_E:XK):Prop
 |mk (lr ls td lb:Addr) (ts:Ib) (rs:Yaa) (zs:List FI) (p:bz) (sg:HY) (c dear side lim:Int) (_:vs=[.ref lr,.ref ls,.int c,.ref td]) (_:GS H p sg lim lr ls ts rs zs) (_:H td=some (.tup [.str (tx sg),.ref lb,.int dear,.int side,.int lim])) (_:H lb=some (.lst (aH p))) (_:p.length=4) (_:(∀r∈p,cr r=true)) (_:cZ sg=true) (_:1<=dear) (_:dear<=9) (_:side<=6) (_:rs.length<24) (_:zs.length<=100) (_:∀H' ts' rs' zs',GS H' p sg lim lr ls ts' rs' zs'->zE lr ls H H'->rs'.length<=rs.length+1->zs'.length<=zs.length+1->(zs≠[]->zs'≠[])->Q .non H')
theorem xW:ay ["_law_rules","_law_stock","_law_cell_here","_law_drawn","_law_signs_here","_law_names_here","_law_dear","_law_side","_law_limit","_law_kind","_law_again","_law_name","_law_cost_here","_law_rest","_law_sign","_law_one","_law_made","_law_other","_law_way","_law_picture"] ["_law_rules","_law_stock","_law_cell_here","_law_drawn"] (ak nQ):=by walk_at "c"
theorem xB{f:Addr}{fd:Ie}(F:cY K "_law_step" "_law_step" nQ f fd)(nb:NB mg)(zac:fF P w K mg base bF 1 "_law_any_rule" ["_law_rest","_law_name","_law_cost_here","_law_drawn"] j8)(zmb:fF P w K mg base bF 2 "_law_put" ["_law_rules","_law_stock","_law_wanted","_law_again","_law_parts","_law_made"] lA)(zJa:fF P w K mg base bF 1 "_law_turned" ["_law_picture","_law_t"] (iT K))(zKa:fF P w K mg base bF 1 "_law_joined" ["_law_one","_law_other","_law_side","_law_most"] jg):aZ P w K mg base bF 3 f fd ["_law_rules","_law_stock","_law_cell_here","_law_drawn"] pz:=by
 have sc:=xW;walk_at "f"
 ·obtain⟨lr,ls,td,lb,ts,rs,zs,p,sg,c,dear,side,lim,rfl,_⟩:=h;rfl
 ·obtain⟨lr,ls,td,lb,ts,rs,zs,p,sg,c,dear,side,lim,rfl,g,htd,hlb,hp4,hpn,hsg,hd1,hd9,hs6,h24,hz100,q⟩:=h
  have hu:=hr.units;refine⟨_,(ae (ng (al 3) (gI (n:=5) rfl (aL (av (i:=4) sc.nd rfl (Or.inl rfl)) (aL (av (i:=5) sc.nd rfl (Or.inl rfl)) (aL (av (i:=6) sc.nd rfl (Or.inl rfl)) (aL (av (i:=7) sc.nd rfl (Or.inl rfl)) (aL (av (i:=8) sc.nd rfl (Or.inl rfl)) c_)))))))
   (ae (aB (i:=9) sc.nd rfl (Or.inl rfl) (ar (aW.m1 aQ) (al 2) ah))
   (ae (aB (i:=10) sc.nd rfl (Or.inl rfl) (ar (aW.m1 aQ) (ar (aW.m1 a_) (al 2) ah) ah))
   (ae (aB (i:=11) sc.nd rfl (Or.inl rfl) (aD bi (al 5) (ar (aW.m1 aQ) (ar (aW.m1 a_) (al 2) ah) ah) (λ_ _=>rfl)))
   (ae (aB (i:=12) sc.nd rfl (Or.inl rfl) (ar (aW.m0 bN) ah (ar (aW.m1 aQ) (ar (aW.m1 a_) (al 2) ah) (al 6))))
   (ae (aB (i:=13) sc.nd rfl (Or.inl rfl) (ar (aW.m1 a_) (ar (aW.m1 a_) (al 2) ah) (al 6)))
   (ae (bj (aE cI (al 9) ah (aI _))
   (ae (bu (gX PySem.F.plainAttrs_list PySem.F.slot_list_append PySem.F.type_list_append cA (al 0) (aa (aK zac (hr.mono nofun) rfl bg (aa (al 13) (aa (al 11) (aa (al 12) (aa (al 3) ad))))) ad)))
   (ai mR))
   aJ)
   (ae (bj (PW.pt (my (aE cI (al 9) ah (aI _)) (kt (aE cI (ax aU rfl nb.len aR (aa (al 1) ad)) ah (aI _)))))
   (ae (aB (i:=14) sc.nd rfl (Or.inl rfl) (aD jv (al 4) (ar (aW.m1 aQ) (al 13) (ax aS rfl nb.len aR (aa (al 4) ad))) (λ_ _=>rfl)))
   (ae (bu (aK zmb (hr.mono nofun) rfl bg (aa (al 0) (aa (al 1) (aa (aY (aa (al 11) (aa (al 12) (bc (aa (al 14) (bV ad)))))) (aa (al 10) (aa (bq ad) (aa (aY (aa (bq (aa (al 14) ad)) (aa (al 8) ad))) ad))))))))
   (ai mR)))
   aJ)
   (ae (aB (i:=15) sc.nd rfl (Or.inl rfl) (aD bi (al 1) (ar (aW.m1 aQ) (al 13) (ax aU rfl nb.len aR (aa (al 1) ad))) (λ_ _=>rfl)))
   (ae (aB (i:=13) sc.nd rfl (Or.inl rfl) (ar (aW.m1 a_) (al 13) (ax aU rfl nb.len aR (aa (al 1) ad))))
   (ae (bj (aE cI (al 9) ah (aI _))
   (ae (aB (i:=16) sc.nd rfl (Or.inl rfl) (aY (aa (aK zJa (hr.mono nofun) rfl bg (aa (aD aF (al 15) ah (λ_ _=>rfl)) (aa (ar (aW.m1 aQ) (al 13) ah) ad))) (aa (al 8) ad))))
   (ae (bu (aK zmb (hr.mono nofun) rfl bg (aa (al 0) (aa (al 1) (aa (aY (aa (al 11) (aa (al 12) (bc (aa (aD aF (al 15) ah (λ_ _=>rfl)) (aa (ar (aW.m1 aQ) (al 13) ah) ad)))))) (aa (al 10) (aa (bq (aa (al 15) ad)) (aa (al 16) ad))))))))
   (ai mR)))
   aJ)
   (ae (aB (i:=17) sc.nd rfl (Or.inl rfl) (aD bi (al 1) (ar (aW.m1 aQ) (al 13) (ax aU rfl nb.len aR (aa (al 1) ad))) (λ_ _=>rfl)))
   (ai (bD PassesOwn.never rfl (CD (aY (aa (al 9) (aa (ar (aW.m0 dc) ah (al 9)) ad)))) (av (i:=18) sc.nd rfl (Or.inl rfl))
   (ae (aB (i:=19) sc.nd rfl (Or.inl rfl) (aK zKa (hr.mono nofun) rfl bg (aa (aD aF (al 15) ah (λ_ _=>rfl)) (aa (aD aF (al 17) ah (λ_ _=>rfl)) (aa (hV cI (al 18) ah (aI _)) (aa (al 7) ad))))))
   (ai (bj (aE Bb (al 19) lW (aI _))
   (ae (bu (aK zmb (hr.mono nofun) rfl bg (aa (al 0) (aa (al 1) (aa (aY (aa (al 11) (aa (al 12) (aa (al 18) (aa (aD aF (al 15) ah (λ_ _=>rfl)) (aa (aD aF (al 17) ah (λ_ _=>rfl)) ad)))))) (aa (al 10) (aa (bq (aa (al 15) (aa (al 17) ad))) (aa (aY (aa (al 19) (aa (al 8) ad))) ad))))))))
   (ai mR))
   aJ))))))))))))))))),?_⟩
  walk_at "n";refine⟨_,bx.of htd,rfl,_,_,rfl,_,_,rfl,_,_,rfl,_,_,rfl,_,_,rfl,rfl,h1 _ _ ?_⟩;walk_at "nc";refine h1 _ _ ?_;walk_at "nc";refine h1 _ _ ?_;walk_at "nc";have hsl:=ii hsg;have pick:∀x:Int,∃z∈p,dY (aH p) (x%4)=some (V.str (tx z)):=λx=>by
   obtain⟨j,hj⟩:∃j:Nat,x%4=(j:Int):=⟨_,(HR (HP _ ⋯)).symm⟩;have:x%4<4:=HQ _ ⋯;exact⟨p[j]'⋯,Hc _,by rw[hj];exact br (bw ⋯)⟩
  have yar:∀x:Int,∃c∈sg,dY (tx sg).cps.toList (x%(sg.length:Int))=some c:=λx=>by
   rw[dO];exact qv (HP _ ⋯) (HQ _ ⋯)
  have hsz:(tx sg).length<=sizeLine:=by rw[aw];exact am ⋯
  obtain⟨nm,hnm,p1⟩:=pick (c/20);refine⟨_,aN.of hlb,_,p1,h1 _ _ ?_⟩;walk_at "nc";have c0:0<=c/80%dear:=HP _ ⋯;have c9:c/80%dear<dear:=HQ _ ⋯;refine⟨⋯,h1 _ _ ?_⟩;clear h1;obtain⟨co,hco⟩:∃co,1+c/80%dear=co:=⟨_,rfl⟩;rw[hco];walk_at "n";refine⟨⋯,⋯,h1 _ _ ?_⟩;clear h1;generalize c/80/dear=re;have gd:∀(k:Nat) (z1 z2:HY) (ch:Nat) (tt:Int),k<4->z1∈p->z2∈p->ch∈sg->0<=tt->tt<=7->fo p sg (k,⟨nm,co,z1,z2,[ch],tt⟩):=λk z1 z2 ch tt hk h1 h2 h3 t0 t7=>by
   have g:RV.good ⟨nm,co,z1,z2,[ch],tt⟩:=⟨hpn _ hnm,by show 1<=co;omega,by show co<=9;omega,hpn _ h1,hpn _ h2,rV hsg h3,t0,t7⟩;exact⟨⟨hk,g,g.small⟩,hnm,h1,h2,ch,h3,rfl⟩
  generalize c/5%4=ag;refine aj λN1 h1=>?_;refine rW λtb ub et eu=>?_;walk_at "wp";refine cC (λk4=>?_) (λk4=>?_)
  ·rw[et]
   clear et eu tb ub h1;walk_at "wp";refine⟨.inl ⟨rfl,_,aN.of g.rows.1⟩,re,co,dear,side,lim,nm,td,lb,p,sg,rfl,htd,hlb,hp4,hpn,hsg,hnm,⋯,⋯,λt r H1 ht hro s1=>⟨_,s1 _ _ g.rows.1,?_,?_⟩⟩
   ·rw[G7,g.rows.2.1];exact bb ⋯
   ·exact q _ _ _ zs ((g.up s1).row ht hro) (λy u n1 n2 e=>by rw[ao n1];exact s1 _ _ e) (by simp) ⋯ (λh=>h)
  rw[eu];clear et eu tb ub;walk_at "wp";refine h1 _ _ ?_;clear h1;refine aj λN1 h1=>?_;refine rW λtb ub et eu=>?_;walk_at "wp";have yaM:∀{D:iJ},D.rt=Q->tb D [some (V.ref lr),some (V.ref ls),some (V.int c),some (V.ref td),some (V.str (tx sg)),some (V.ref lb),some (V.int dear),some (V.int side),some (V.int lim),some (V.int (c%5)),some (V.int ag),some (V.str (tx nm)),some (V.int co),some (V.int re),none,none,none,none,none,none] H:=fun{D} hD=>by
   rw[et];walk_at "wp";rw[aw];obtain⟨ch,hch,pc⟩:=yar re;have hs2:sg.length<=sizeLine:=am ⋯;refine⟨hs2,⋯,hs2,ch,pc,am nofun,λtw htw=>⟨Hs _,λla hla=>⟨am nofun,λlq hlq=>⟨am nofun,λtm htm=>?_⟩⟩⟩⟩;have r0:=gd 0 nm nm ch 0 nofun hnm hnm hch nofun nofun;generalize hr:(⟨nm,co,nm,nm,[ch],0⟩:RV)=rv at r0;have e1:au H tw (.tup [V.str (tx nm),V.int co,V.int 0,V.str ⟨#[ch]⟩,V.str (Str.ofString "")]) tw=some (.tup (fh (0,rv))):=by rw[ac,<- hr];rfl
   have s1:=af (o:=.tup [V.str (tx nm),V.int co,V.int 0,V.str ⟨#[ch]⟩,V.str (Str.ofString "")]) htw;generalize au H tw (.tup [V.str (tx nm),V.int co,V.int 0,V.str ⟨#[ch]⟩,V.str (Str.ofString "")])=H1 at s1 e1 hla hlq htm ⊢;have s2:=af (o:=.lst []) hla;have e2:au H1 la (.lst []) la=some (.lst []):=ac;generalize au H1 la (.lst [])=H2 at s2 e2 hlq htm ⊢;have s3:=af (o:=.lst [V.str ⟨#[ch]⟩]) hlq;have e3:au H2 lq (.lst [V.str ⟨#[ch]⟩]) lq=some (.lst (aH [rv.sg])):=by rw[ac,<- hr];rfl
   generalize au H2 lq (.lst [V.str ⟨#[ch]⟩])=H3 at s3 e3 htm ⊢;have s4:=af (o:=.tup [V.ref lq,V.int lim]) htm;have e4:au H3 tm (.tup [V.ref lq,V.int lim]) tm=some (.tup [V.ref lq,V.int lim]):=ac;generalize au H3 tm (.tup [V.ref lq,V.int lim])=H4 at s4 e4 ⊢;have s24:=s3.trans s4;have s14:=s2.trans s24;have s04:=s1.trans s14;have nl:∀{x u},H x=some u->la≠x:=λe z=>by rw[<- z,kW s1 hla]at e;cases e
   refine⟨lr,ls,tw,la,tm,lq,ag,ts,rs,zs,[],(0,rv),[rv.sg],p,sg,lim,rfl,g.up s04,s14 _ _ e1,r0,h24,hz100,s24 _ _ e2,nl g.rows.1,nl g.st,λy hy=>(nomatch hy),e4,s4 _ _ e3,by simp,Nx.cell rfl,λH' ts' rs' zs' g' sB l1 l2 hne=>?_⟩;rw[hD];exact q H' ts' rs' zs' g' (λy u n1 n2 e=>sB y u n1 n2 (s04 _ _ e)) l1 l2 (λh=>hne (.inl h))
  refine cC (λ_=>yaM rfl) (λk0=>⟨_,aN.of g.st,?_⟩);rw[G7];refine cC (λ_=>yaM rfl) (λz0=>?_);clear yaM;rw[eu];clear et eu tb ub;have hz1:1<=zs.length:=by omega
  have hz0:zs≠[]:=λe=>by rw[e]at hz1;simp at hz1
  have yaQ:∀x:Int,∃z∈zs,dY (zs.map λz=>V.ref z.a) (x%(zs.length:Int))=some (V.ref z.a):=λx=>by
   obtain⟨v,hv,e⟩:=qv (xs:=zs.map λz=>V.ref z.a) (HP x (show(zs.length:Int)≠0 by omega)) (by rw[G7];exact HQ _ ⋯);obtain⟨z,hz,rfl⟩:=HJ.mp hv;exact⟨z,hz,e⟩
  walk_at "wp";refine h1 _ _ ?_;walk_at "nc";obtain⟨z1,hz1m,pz1⟩:=yaQ re;refine⟨_,aN.of g.st,by rw[G7];omega,_,aN.of g.st,_,by rw[G7];exact pz1,h1 _ _ ?_⟩;walk_at "nc";refine⟨_,aN.of g.st,by rw[G7];omega,by rw[G7];omega,h1 _ _ ?_⟩;clear h1;rw[G7];generalize re/(zs.length:Int)=re2;have za1:=g.at_ z1 hz1m;have zg1:=g.good z1 hz1m;obtain⟨zr,zc,zsd⟩:=zg1.sd;have zp:=zsd.pic λr hr=>(g.ro r hr).good;have zr6:zr<=6:=zp.r6;have zc6:zc<=6:=zp.c6;obtain⟨ch,hch,_⟩:=yar 0;have fin:∀{H5:Hp} {tw la tm lq:Addr} {ys:List FI} {r:Nat×RV} {pc:bz},az H H5->H5 tw=some (.tup (fh r))->fo p sg r->r.2.c=co->H5 la=some (.lst (ys.map λz=>V.ref z.a))->H la=none->(∀y∈ys,y∈zs)->H5 tm=some (.tup [.ref lq,.int lim])->H5 lq=some (.lst (aH pc))->(∃a b,fk pc a b)->Nx r (ys.map FI.x) pc->lA [.ref lr,.ref ls,.ref tw,.int ag,.ref la,.ref tm] H5 (λ_ H1=>Q .non H1) E0:=fun{H5 tw la tm lq ys r pc} s5 e1 hro hc0 e2 hla hys e3 e4 hpc nx=>by
   have nl:∀{x u},H x=some u->la≠x:=λe z=>by rw[<- z,hla]at e;cases e
   obtain⟨a,b,p6⟩:=hpc;refine⟨lr,ls,tw,la,tm,lq,ag,ts,rs,zs,ys,r,pc,p,sg,lim,rfl,g.up s5,e1,hro,h24,hz100,e2,nl g.rows.1,nl g.st,hys,e3,e4,λe=>?_,nx,λH' ts' rs' zs' g' sB l1 l2 hne=>?_⟩
   ·have h1:=p6.rc.1
    have h2:=p6.r0;rw[e]at h1;rw[<- h1]at h2;cases h2
   ·exact q H' ts' rs' zs' g' (λy u n1 n2 e=>sB y u n1 n2 (s5 _ _ e)) l1 l2 (λh=>hne (.inl h))
  refine aj λN1 h1=>?_;refine rW λtb ub et eu=>?_;walk_at "wp";refine cC (λk3=>?_) (λk3=>?_)
  ·rw[et]
   clear et eu tb ub h1;walk_at "n";obtain⟨tt,htt,ht8⟩:∃tt:Nat,re2%8=(tt:Int)/\tt<8:=⟨(re2%8).toNat,⋯,⋯⟩;rw[htt];refine⟨_,bx.of za1.1,_,rfl,z1.lp,z1.x.p,zr,zc,tt,rfl,za1.2.2.1,zp.rc,zp.r0,zp.c0,⋯,⋯,ht8,λlq H1 hlq elq s1=>⟨am nofun,λtm htm=>h1 _ _ ?_⟩⟩;clear h1;have s2:=af (o:=.tup [V.ref lq,V.int lim]) htm;have e2:au H1 tm (.tup [V.ref lq,V.int lim]) tm=some (.tup [V.ref lq,V.int lim]):=ac;generalize au H1 tm (.tup [V.ref lq,V.int lim])=H2 at s2 e2 ⊢;have s02:=s1.trans s2;walk_at "wp";rw[htt];refine⟨_,bx.of (s02 _ _ za1.1),_,rfl,am nofun,λtw htw=>⟨am nofun,λla hla=>?_⟩⟩;have hla0:H la=none:=kW (s02.trans (af htw)) hla;have e3:au H2 tw (.tup [V.str (tx nm),V.int co,V.int 3,V.str (tx z1.x.nm),V.int (tt:Int)]) tw=some (.tup (fh (3,⟨nm,co,z1.x.nm,nm,[ch],(tt:Int)⟩))):=ac;have s3:=af (o:=.tup [V.str (tx nm),V.int co,V.int 3,V.str (tx z1.x.nm),V.int (tt:Int)]) htw;generalize au H2 tw (.tup [V.str (tx nm),V.int co,V.int 3,V.str (tx z1.x.nm),V.int (tt:Int)])=H3 at s3 e3 hla ⊢;have s4:=af (o:=.lst [V.ref z1.a]) hla;exact fin ((s02.trans s3).trans s4) (s4 _ _ e3) (gd 3 _ _ ch _ nofun zg1.nm hnm hch ⋯ ⋯) rfl (ys:=[z1]) ac hla0 (λy hy=>by rw[G8.mp hy];exact hz1m) (s4 _ _ (s3 _ _ e2)) (s4 _ _ (s3 _ _ (s2 _ _ elq))) (xH zp tt) (Nx.turn (x:=z1.x) rfl rfl)
  ·rw[eu]
   clear et eu tb ub;walk_at "wp";refine h1 _ _ ?_;walk_at "nc";obtain⟨z2,hz2m,pz2⟩:=yaQ re2;refine⟨_,aN.of g.st,by rw[G7];omega,_,aN.of g.st,_,by rw[G7];exact pz2,h1 _ _ ?_⟩;clear h1;have za2:=g.at_ z2 hz2m;have zg2:=g.good z2 hz2m;obtain⟨zr2,zc2,zsd2⟩:=zg2.sd;have zp2:=zsd2.pic λr hr=>(g.ro r hr).good;walk_at "wp";refine⟨am nofun,λpt hpt=>?_⟩;have s1:=af (o:=.tup [V.int (c%5),V.int (3-c%5)]) hpt;have e1:au H pt (.tup [V.int (c%5),V.int (3-c%5)]) pt=some (.tup [V.int (c%5),V.int (3-c%5)]):=ac;generalize au H pt (.tup [V.int (c%5),V.int (3-c%5)])=H1 at s1 e1 ⊢;refine⟨⟨_,bx.of e1⟩,?_⟩;refine Au (xs:=[V.int (c%5),V.int (3-c%5)]) (λi σ H'=>az H1 H'/\∃y2 y3,σ=[some (V.ref lr),some (V.ref ls),some (V.int c),some (V.ref td),some (V.str (tx sg)),some (V.ref lb),some (V.int dear),some (V.int side),some (V.int lim),some (V.int (c%5)),some (V.int ag),some (V.str (tx nm)),some (V.int co),some (V.int re2),none,some (V.ref z1.a),none,some (V.ref z2.a),y2,y3]) ⟨az.refl _,_,_,rfl⟩ (λi σ H' _ h=>bx.of (h.1 _ _ e1)) ?_ ?_
   ·rintro i x σ H2 hx ⟨s2,y2,y3,rfl⟩
    obtain⟨k,hk,rfl⟩:∃k:Nat,(k=1\/k=2)/\x=V.int (k:Int):=by
     have hc4:c%5=1\/c%5=2:=by omega
     have hm:=G_ hx;rcases hc4 with e | e<;>rw[e]at hm<;>(rcases Hi.mp hm with rfl | hm)
     ·exact⟨1,.inl rfl,rfl⟩
     ·rw[G8.mp hm];exact⟨2,.inr rfl,rfl⟩
     ·exact⟨2,.inr rfl,rfl⟩
     ·rw[G8.mp hm];exact⟨1,.inl rfl,rfl⟩
    have s02:=s1.trans s2;have hk2:(if decide ((k:Int)=1)=true then 1 else 2)=k:=by rcases hk with rfl | rfl<;>rfl
    walk_at "o";refine⟨_,bx.of (s02 _ _ za1.1),_,rfl,_,bx.of (s02 _ _ za2.1),_,rfl,z1.lp,z2.lp,z1.x.p,z2.x.p,zr,zc,zr2,zc2,decide ((k:Int)=1),side,rfl,s02 _ _ za1.2.2.1,s02 _ _ za2.2.2.1,zp,zp2,hs6,λpc hpc lq H3 hlq elq s3=>h2 _ _ ?_,λH3 _ s3=>h2 _ _ ?_⟩
    ·clear h2
     rw[hk2]at hpc;walk_at "wp";rw[if_pos (by simp)];have s03:=s02.trans s3;refine⟨_,bx.of (s03 _ _ za1.1),_,rfl,_,bx.of (s03 _ _ za2.1),_,rfl,am nofun,λtw htw=>⟨am nofun,λla hla=>⟨am nofun,λtm htm=>?_⟩⟩⟩;have hla0:H la=none:=kW (s03.trans (af htw)) hla;have r0:fo p sg (k,⟨nm,co,z1.x.nm,z2.x.nm,[ch],0⟩):=gd k _ _ ch _ ⋯ zg1.nm zg2.nm hch nofun nofun;have e4:au H3 tw (.tup [V.str (tx nm),V.int co,V.int (k:Int),V.str (tx z1.x.nm),V.str (tx z2.x.nm)]) tw=some (.tup (fh (k,⟨nm,co,z1.x.nm,z2.x.nm,[ch],0⟩))):=by rw[ac];rcases hk with rfl | rfl<;>rfl
     have s4:=af (o:=.tup [V.str (tx nm),V.int co,V.int (k:Int),V.str (tx z1.x.nm),V.str (tx z2.x.nm)]) htw;generalize au H3 tw (.tup [V.str (tx nm),V.int co,V.int (k:Int),V.str (tx z1.x.nm),V.str (tx z2.x.nm)])=H4 at s4 e4 hla htm ⊢;have s5:=af (o:=.lst [V.ref z1.a,V.ref z2.a]) hla;have e5:au H4 la (.lst [V.ref z1.a,V.ref z2.a]) la=some (.lst [V.ref z1.a,V.ref z2.a]):=ac;generalize au H4 la (.lst [V.ref z1.a,V.ref z2.a])=H5 at s5 e5 htm ⊢;have s6:=af (o:=.tup [V.ref lq,V.int lim]) htm;have s56:=s5.trans s6;exact fin ((s03.trans s4).trans s56) (s56 _ _ e4) r0 rfl (ys:=[z1,z2]) (s6 _ _ e5) hla0 (λy hy=>by rcases Hi.mp hy with rfl | hy;exact hz1m;rw[G8.mp hy];exact hz2m) ac ((s4.trans s56) _ _ elq) (zR hk zp zp2 (hpc ⟨nm,co,z1.x.nm,z2.x.nm,[ch],0⟩)) (Nx.pair (x:=z1.x) (y:=z2.x) hk rfl rfl (hpc _))
    ·clear h2
     walk_at "wp";rw[if_neg (by simp)];exact s2.trans s3
   ·rintro σ H2 ⟨s2,y2,y3,rfl⟩
    exact q H2 ts rs zs (g.up (s1.trans s2)) (λy u _ _ e=>s2 _ _ (s1 _ _ e)) ⋯ ⋯ (λ_=>hz0)
noncomputable abbrev lE:Stmt:=kD 60
inductive nO(vs:List V)(H:Hp)(Q:VK)(_E:XK):Prop
 |mk (lc td lb:Addr) (cells:List Int) (p:bz) (sg:HY) (dear side lim:Int) (_:vs=[.ref lc,.ref td]) (_:H lc=some (.lst (cells.map V.int))) (_:cells.length<=14) (_:H td=some (.tup [.str (tx sg),.ref lb,.int dear,.int side,.int lim])) (_:H lb=some (.lst (aH p))) (_:p.length=4) (_:(∀r∈p,cr r=true)) (_:cZ sg=true) (_:1<=dear) (_:dear<=9) (_:side<=6) (_:1<=lim) (_:∀tp lr ls ts rs zs H',H' tp=some (.tup [.ref lr,.ref ls])->GS H' p sg lim lr ls ts rs zs->rs.length<=15->zs≠[]->zs.length<=15->az H H'->Q (.ref tp) H')
theorem uB:ay ["_law_cells_here","_law_drawn","_law_rules","_law_stock","_law_cell_here"] ["_law_cells_here","_law_drawn"] (ak lE):=by walk_at "c"
theorem uD{f:Addr}{fd:Ie}(F:cY K "_law_grown" "_law_grown" lE f fd)(nb:NB mg)(zmb:fF P w K mg base bF 2 "_law_put" ["_law_rules","_law_stock","_law_wanted","_law_again","_law_parts","_law_made"] lA)(zhf:fF P w K mg base bF 3 "_law_step" ["_law_rules","_law_stock","_law_cell_here","_law_drawn"] pz):aZ P w K mg base bF 4 f fd ["_law_cells_here","_law_drawn"] nO:=by
 have sc:=uB;walk_at "f"
 ·obtain⟨lc,td,lb,cells,p,sg,dear,side,lim,rfl,_⟩:=h;rfl
 ·obtain⟨lc,td,lb,cells,p,sg,dear,side,lim,rfl,hlc,hc14,htd,hlb,hp4,hpn,hsg,hd1,hd9,hs6,hl1,q⟩:=h
  have hu:=hr.units;refine⟨_,(ae (aB (i:=2) sc.nd rfl (Or.inl rfl) (bq ad))
   (ae (aB (i:=3) sc.nd rfl (Or.inl rfl) (bq ad))
   (ae (bD PassesOwn.never rfl (bX (al 0)) (av (i:=4) sc.nd rfl (Or.inl rfl))
   (ai (bu (aK zhf (hr.mono nofun) rfl bg (aa (al 2) (aa (al 3) (aa (al 4) (aa (al 1) ad))))))))
   (ae (bj (aE cI (ax aU rfl nb.len aR (aa (al 3) ad)) ah (aI _))
   (ai (bu (aK zmb (hr.mono nofun) rfl bg (aa (al 2) (aa (al 3) (aa (aY (aa (aD bi (aD aF (al 1) ah (λ_ _=>rfl)) ah (λ_ _=>rfl)) (bc (bc (aa (aD jv (aD aF (al 1) ah (λ_ _=>rfl)) ah (λ_ _=>rfl)) (bV ad)))))) (bc (aa (bq ad) (aa (aY (aa (bq (aa (aD jv (aD aF (al 1) ah (λ_ _=>rfl)) ah (λ_ _=>rfl)) ad)) (aa (aD aF (al 1) ah (λ_ _=>rfl)) ad))) ad)))))))))
   aJ)
   (ai (aG (aY (aa (al 2) (aa (al 3) ad))))))))),?_⟩
  walk_at "n";refine⟨Hs _,λlr hlr=>h1 _ _ ?_⟩;walk_at "nc";refine⟨Hs _,λls hls=>h1 _ _ ?_⟩;walk_at "nc";have sA:=(af (o:=.lst []) hlr).trans (af (o:=.lst []) hls);refine⟨⟨_,aN.of (sA _ _ hlc)⟩,?_⟩;have flr:au (au H lr (.lst [])) ls (.lst []) lr=some (.lst []):=af hls _ _ ac;have fls:au (au H lr (.lst [])) ls (.lst []) ls=some (.lst []):=ac;have hls0:H ls=none:=by
   by_cases e:ls=lr
   ·rw[e];exact hlr
   ·rwa [ao e]at hls
  have hne:lr≠ls:=λe=>by rw[<- e,ac]at hls;cases hls
  generalize au (au H lr (.lst [])) ls (.lst [])=H1 at sA flr fls ⊢;refine cR (xs:=cells.map V.int) (λi σ H'=>az H H'/\i<=cells.length/\(∃ts rs zs,GS H' p sg lim lr ls ts rs zs/\rs.length<=i/\zs.length<=i)/\∃z,σ=[some (V.ref lc),some (V.ref td),some (V.ref lr),some (V.ref ls),z])
   ⟨sA,Hs _,⟨[],[],[],⟨⟨flr,rfl,λi t r e=>by simp at e⟩,λr hr=>(nomatch hr),fls,λz hz=>(nomatch hz),λz hz=>(nomatch hz),hne⟩,Hr _,Hr _⟩,_,rfl⟩ (λi σ H' _ h=>aN.of (h.1 _ _ hlc)) ?_ ?_
  ·rintro i x σ H' hx ⟨sm,_,⟨ts,rs,zs,g,hrl,hzl⟩,z,rfl⟩
   rw[G9]at hx;obtain⟨c,hc,rfl⟩:=Hv.mp hx;have hi1:i<cells.length:=(G5.mp hc).1;walk_at "wp";refine⟨lr,ls,td,lb,ts,rs,zs,p,sg,c,dear,side,lim,rfl,g,sm _ _ htd,sm _ _ hlb,hp4,hpn,hsg,hd1,hd9,hs6,⋯,⋯,λH2 ts' rs' zs' g' sB l1 l2 hne'=>?_⟩;exact⟨λy u e=>sB y u (aA e hlr) (aA e hls0) (sm y u e),hi1,ts',rs',zs',g',⋯,⋯⟩
  ·rintro σ H' ⟨sm,_,⟨ts,rs,zs,g,hrl,hzl⟩,z,rfl⟩
   refine h1 _ _ ?_;clear h1;rw[G7]at hrl hzl;refine aj λN1 h1=>?_;have fin:∀{ts rs zs H2},GS H2 p sg lim lr ls ts rs zs->rs.length<=15->zs≠[]->zs.length<=15->az H H2->N1 [some (V.ref lc),some (V.ref td),some (V.ref lr),some (V.ref ls),z] H2:=fun{ts rs zs H2} g2 r15 z0 D5 s2=>by
    refine h1 _ _ ?_;walk_at "wp";exact⟨am nofun,λtp htp=>q tp lr ls ts rs zs _ ac (g2.up (af htp)) r15 z0 D5 (s2.trans (af htp))⟩
   clear h1;walk_at "wp";refine⟨_,aN.of g.st,?_⟩;rw[G7];refine cC (λh0=>?_) (λh0=>fin g ⋯ (λe=>h0 (by rw[e];rfl)) ⋯ sm);have hz:zs=[]:=HI.mp ⋯;subst hz;have hsl:=ii hsg;obtain⟨nm,hnm,hp0⟩:∃nm∈p,dY (aH p) 0=some (V.str (tx nm)):=⟨p[0]'⋯,Hc _,(show dY _ ((0:Nat):Int)=_ from br (bw ⋯))⟩;obtain⟨ch,hch,hs0⟩:∃ch∈sg,dY (tx sg).cps.toList 0=some ch:=⟨sg[0]'⋯,Hc _,by rw[dO];exact(show dY _ ((0:Nat):Int)=_ from br (G4 _))⟩;have hsz:(tx sg).length<=sizeLine:=by rw[aw];exact am ⋯
   have td0:=sm _ _ htd;refine⟨_,bx.of td0,_,rfl,_,rfl,_,aN.of (sm _ _ hlb),_,hp0,_,bx.of td0,_,rfl,_,rfl,hsz,ch,hs0,am nofun,λtw htw=>⟨Hs _,λla hla=>?_⟩⟩;have s1:=af (o:=.tup [V.str (tx nm),V.int 1,V.int 0,V.str ⟨#[ch]⟩,V.str (Str.ofString "")]) htw;have r0:fo p sg (0,⟨nm,1,nm,nm,[ch],0⟩):=by
    have g:RV.good ⟨nm,1,nm,nm,[ch],0⟩:=⟨hpn _ hnm,(by decide:(1:Int)<=1),(by decide:(1:Int)<=9),hpn _ hnm,hpn _ hnm,rV hsg hch,(by decide:(0:Int)<=0),(by decide:(0:Int)<=7)⟩;exact⟨⟨(by decide:(0:Nat)<4),g,g.small⟩,hnm,hnm,hnm,ch,hch,rfl⟩
   have e1:au H' tw (.tup [V.str (tx nm),V.int 1,V.int 0,V.str ⟨#[ch]⟩,V.str (Str.ofString "")]) tw=some (.tup (fh (0,⟨nm,1,nm,nm,[ch],0⟩))):=ac;generalize au H' tw (.tup [V.str (tx nm),V.int 1,V.int 0,V.str ⟨#[ch]⟩,V.str (Str.ofString "")])=H1 at s1 e1 hla ⊢;have s2:=af (o:=.lst []) hla;have e2:au H1 la (.lst []) la=some (.lst []):=ac;generalize au H1 la (.lst [])=H2 at s2 e2 ⊢;have td2:=s2 _ _ (s1 _ _ td0);refine⟨_,bx.of td2,_,rfl,_,rfl,hsz,ch,hs0,am nofun,λlq hlq=>?_⟩;have s3:=af (o:=.lst [V.str ⟨#[ch]⟩]) hlq;have e3:au H2 lq (.lst [V.str ⟨#[ch]⟩]) lq=some (.lst (aH [[ch]])):=ac;generalize au H2 lq (.lst [V.str ⟨#[ch]⟩])=H3 at s3 e3 ⊢;refine⟨_,bx.of (s3 _ _ td2),_,rfl,am nofun,λtm htm=>?_⟩;have s4:=af (o:=.tup [V.ref lq,V.int lim]) htm;have e4:au H3 tm (.tup [V.ref lq,V.int lim]) tm=some (.tup [V.ref lq,V.int lim]):=ac;generalize au H3 tm (.tup [V.ref lq,V.int lim])=H4 at s4 e4 ⊢;have s24:=s3.trans s4;have s14:=s2.trans s24;have s04:=s1.trans s14;have nl:∀{x u},H' x=some u->la≠x:=λe z=>by rw[<- z,kW s1 hla]at e;cases e
   refine⟨lr,ls,tw,la,tm,lq,0,ts,rs,[],[],(0,⟨nm,1,nm,nm,[ch],0⟩),[[ch]],p,sg,lim,rfl,g.up s04,s14 _ _ e1,r0,⋯,by simp,s24 _ _ e2,nl g.rows.1,nl g.st,λy hy=>(nomatch hy),e4,s4 _ _ e3,by simp,Nx.cell rfl,λH5 ts' rs' zs' g' sB l1 l2 hne'=>?_⟩;refine fin g' ⋯ (hne' (.inr ⟨Int.le_refl _,rfl,hl1⟩)) (Hy l2 (by simp)) λy u e=>sB y u (aA e hlr) (aA e hls0) (s04 _ _ (sm y u e))
theorem Sd.inv{rs:Yaa}{t:bI}{p:TR}{pc:bz}(h:Sd rs t p pc):∃(n:Nat) (v:RV),(t=.n0 n/\rs[n]?=some (0,v)/\pc=[v.sg])\/(∃t1 p1 q1,t=.n1 n t1/\rs[n]?=some (3,v)/\Sd rs t1 p1 q1/\pc=turned q1 v.t.toNat)\/(∃kd t1 t2 p1 p2 q1 q2,(kd=1\/kd=2)/\t=.n2 n t1 t2/\rs[n]?=some (kd,v)/\Sd rs t1 p1 q1/\Sd rs t2 p2 q2/\fS kd v [q1,q2]=some pc):=by
 cases h with
 |cell e=>exact⟨_,_,.inl ⟨rfl,e,rfl⟩⟩
 |turn e s=>exact⟨_,_,.inr (.inl ⟨_,_,_,rfl,e,s,rfl⟩)⟩
 |beside e s1 s2 m=>exact⟨_,_,.inr (.inr ⟨1,_,_,_,_,_,_,.inl rfl,rfl,e,s1,s2,m⟩)⟩
 |above e s1 s2 m=>exact⟨_,_,.inr (.inr ⟨2,_,_,_,_,_,_,.inr rfl,rfl,e,s1,s2,m⟩)⟩
noncomputable abbrev nA:Stmt:=kD 61
inductive mh(n:Nat)(vs:List V)(H:Hp)(Q:VK)(_E:XK):Prop
 |mk (lr:Addr) (v:V) (t:bI) (ts:Ib) (rs:Yaa) (p:TR) (pc:bz) (_:vs=[.ref lr,v,.int 6]) (_:dA H lr ts rs) (_:(∀r∈rs,dZ r)) (_:cO H t.d v) (_:Sd rs t p pc) (_:t.dep<=n) (_:c7 H pc Q)
theorem pC:ay ["_law_rules","_law_tree","_law_side","_law_rule_here","_law_one","_law_other"] ["_law_rules","_law_tree","_law_side"] (ak nA):=by walk_at "c"
theorem pY{f:Addr}{fd:Ie}(F:cY K "_law_laid" "_law_laid" nA f fd)(nb:NB mg)(zJa:fF P w K mg base bF 1 "_law_turned" ["_law_picture","_law_t"] (iT K))(zKa:fF P w K mg base bF 1 "_law_joined" ["_law_one","_law_other","_law_side","_law_most"] jg)(hm:mg "_law_laid"=some (.ref f))(hk:W.keepIn K (.ref f)=true)(hb:cV K fd ["_law_rules","_law_tree","_law_side"] []):∀n,n<=60->aZ P w K mg base bF (n+2) f fd ["_law_rules","_law_tree","_law_side"] (mh n)
 |0,_=>by
  refine F.ok pC (λvs H Q E h=>?_) (λcdv A outer s H vs Q E hr h=>?_)
  ·obtain⟨lr,v,t,ts,rs,p,pc,rfl,_⟩:=h;rfl
  ·obtain⟨lr,v,t,ts,rs,p,pc,rfl,_,_,_,_,hd,_⟩:=h
   have:=t.dep1;omega
 |n+1,hn=>by
  have sc:=pC;have zJb:fF P w K mg base bF (n+2) "_law_laid" ["_law_rules","_law_tree","_law_side"] (mh n):=⟨f,fd,pY F nb zJa zKa hm hk hb n ⋯,hm,hk,hb⟩;walk_at "f"
  ·obtain⟨lr,v,t,ts,rs,p,pc,rfl,_⟩:=h;rfl
  ·obtain⟨lr,v,t,ts,rs,p,pc,rfl,hR,hg,ht,sd,hd,q⟩:=h
   have hu:=hr.units;refine⟨_,(ae (aB (i:=3) sc.nd rfl (Or.inl rfl) (aD bi (al 0) (aD aF (al 1) ah (λ_ _=>rfl)) (λ_ _=>rfl)))
   (ae (bj (aE cI (aD aF (al 3) ah (λ_ _=>rfl)) ah (aI _))
   (ai (aG (bq (aa (aD aF (al 3) ah (λ_ _=>rfl)) ad))))
   aJ)
   (ae (aB (i:=4) sc.nd rfl (Or.inl rfl) (aK zJb (hr.mono ⋯) rfl bg (aa (al 0) (aa (aD aF (al 1) ah (λ_ _=>rfl)) (aa (al 2) ad)))))
   (ae (bj (PW.pt (my (aE vw (al 4) lW (aI _)) (kt (aE cI (aD aF (al 3) ah (λ_ _=>rfl)) ah (aI _)))))
   (ai (aG (iO (aE vw (al 4) lW (aI _)) (al 4) (aK zJa (hr.mono ⋯) rfl bg (aa (al 4) (aa (aD aF (al 3) ah (λ_ _=>rfl)) ad))))))
   aJ)
   (ae (aB (i:=5) sc.nd rfl (Or.inl rfl) (aK zJb (hr.mono ⋯) rfl bg (aa (al 0) (aa (aD aF (al 1) ah (λ_ _=>rfl)) (aa (al 2) ad)))))
   (ae (bj (aE vw (al 5) lW (aI _))
   (ai (aG lW))
   aJ)
   (ai (aG (aK zKa (hr.mono ⋯) rfl bg (aa (al 4) (aa (al 5) (aa (hV cI (aD aF (al 3) ah (λ_ _=>rfl)) ah (aI _)) (aa (al 2) ad))))))))))))),?_⟩
   have row:∀(k:Nat) (r:Nat×RV),rs[k]?=some r->∃tk,dY (ts.map V.ref) (k:Int)=some (V.ref tk)/\H tk=some (.tup (fh r)):=λk r e=>by
    obtain⟨tk,htk⟩:∃tk,ts[k]?=some tk:=⟨_,G4 (by have:=(G5.mp e).1;have:=hR.2.1;omega)⟩;exact⟨tk,br (by rw[G9,htk];rfl),hR.2.2 k tk r htk e⟩
   obtain⟨a,vs,rfl,hta,htr⟩:=bI.val ht;obtain⟨k,v,⟨rfl,e,rfl⟩ | ⟨t1,p1,q1,rfl,e,s1,rfl⟩ | ⟨kd,t1,t2,p1,p2,q1,q2,hkd,rfl,e,s1,s2,m⟩⟩:=sd.inv
   ·obtain⟨tk,ha,htk⟩:=row k _ e
    walk_at "n";refine⟨_,bx.of hta,_,Av _ _,_,_,rfl,aN.of hR.1,_,ha,h1 _ _ ?_⟩;walk_at "nc";refine⟨_,bx.of htk,_,rfl,rfl,?_⟩;rw[if_pos rfl];exact⟨_,bx.of htk,_,rfl,am nofun,λl hl=>q l _ hl ac (af hl)⟩
   ·obtain⟨tk,ha,htk⟩:=row k _ e
    walk_at "n";refine⟨_,bx.of hta,_,Av _ _,_,_,rfl,aN.of hR.1,_,ha,h1 _ _ ?_⟩;walk_at "nc";refine⟨_,bx.of htk,_,rfl,rfl,?_⟩;rw[if_neg nofun];refine h1 _ _ ?_;walk_at "nc";obtain⟨x1,ys,rfl,hx1,htr2⟩:=(show bC H [t1.d] vs from htr).uncons;have hd1:t1.dep<=n:=by have:t1.dep+1<=n+1:=hd;omega
    refine⟨_,bx.of hta,x1,(show dY (V.int _::x1::ys) ((1:Nat):Int)=_ from br rfl),lr,x1,t1,ts,rs,p1,q1,rfl,hR,hg,hx1,s1,hd1,λl H1 hl hl2 sm1=>h1 _ _ ?_⟩;walk_at "nc";have htk1:=sm1 _ _ htk;refine⟨_,bx.of htk1,_,rfl,rfl,?_⟩;rw[if_pos rfl];have gv:=(hg _ (G_ e)).good;have t0:0<=v.t:=gv.t0;have t7:v.t<=7:=gv.t7;have pq:=s1.pic hg;have:=pq.r6;have:=pq.c6;refine⟨_,bx.of htk1,_,rfl,l,q1,p1.2.1,p1.2.2.1,v.t.toNat,by rw[HR t0],hl2,pq.rc,pq.r0,pq.c0,⋯,⋯,⋯,λl2 H2 hl2 hl3 sm2=>q l2 H2 (sm1.free hl2) hl3 (sm1.trans sm2)⟩
   ·obtain⟨tk,ha,htk⟩:=row k _ e
    walk_at "n";refine⟨_,bx.of hta,_,Av _ _,_,_,rfl,aN.of hR.1,_,ha,h1 _ _ ?_⟩;clear h1;have hkV:fh (kd,v)=[.str (tx v.n),.int v.c,.int (kd:Int),.str (tx v.o1),.str (tx v.o2)]:=by rcases hkd with rfl | rfl<;>rfl
    rw[hkV]at htk;walk_at "n";refine⟨_,bx.of htk,_,rfl,rfl,?_⟩;rw[if_neg (by intro e;have:=V.int.inj e;omega)];refine h1 _ _ ?_;walk_at "nc";obtain⟨x1,ys,rfl,hx1,htr2⟩:=(show bC H [t1.d,t2.d] vs from htr).uncons;obtain⟨x2,zs,rfl,hx2,htr3⟩:=htr2.uncons;have hd1:max t1.dep t2.dep+1<=n+1:=hd;refine⟨_,bx.of hta,x1,(show dY (V.int _::x1::x2::zs) ((1:Nat):Int)=_ from br rfl),lr,x1,t1,ts,rs,p1,q1,rfl,hR,hg,hx1,s1,⋯,λl H1 hl hl2 sm1=>h1 _ _ ?_⟩;walk_at "nc";have htk1:=sm1 _ _ htk;refine⟨_,bx.of htk1,_,rfl,rfl,?_⟩;rw[if_neg (by intro e;have:=V.int.inj e;omega)];refine h1 _ _ ?_;walk_at "nc";refine⟨_,bx.of (sm1 _ _ hta),x2,(show dY (V.int _::x1::x2::zs) ((2:Nat):Int)=_ from br rfl),lr,x2,t2,ts,rs,p2,q2,rfl,hR.up sm1,hg,hx2.up (v7.of sm1) _,s2,⋯,λl2 H2 hl3 hl4 sm2=>h1 _ _ ?_⟩;clear h1;have sm12:=sm1.trans sm2;walk_at "n";refine h1 _ _ ?_;clear h1;walk_at "wp";have htk2:=sm2 _ _ htk1;have hk2:(if decide (V.int (kd:Int)=V.int 1)=true then 1 else 2)=kd:=by rcases hkd with rfl | rfl<;>rfl
    refine⟨_,bx.of htk2,_,rfl,rfl,l,l2,q1,q2,p1.2.1,p1.2.2.1,p2.2.1,p2.2.2.1,decide (V.int (kd:Int)=V.int 1),6,rfl,sm2 _ _ hl2,hl4,s1.pic hg,s2.pic hg,Int.le_refl _,λpc' hpc' l3 H3 hl5 hl6 sm3=>?_,λH3 hn _=>?_⟩
    ·rw[hk2]at hpc'
     have e2:=(hpc' v).symm.trans m;cases e2;exact q l3 H3 (sm12.free hl5) hl6 (sm12.trans sm3)
    ·rw[hk2]at hn
     have e2:=(hn rfl v).symm.trans m;cases e2
noncomputable abbrev rO:Stmt:=kD 63
inductive sW(R:RC)(CG:Addr)(vs:List V)(H:Hp)(Q:VK)(_E:XK):Prop
 |mk (g dx:Addr) (sg st:HY) (as:Ib) (rs:Yaa) (nm:HY) (r c m:Nat) (_:vs=[.ref g,.str (tx nm),.int (r:Int),.int (c:Int),.int (m:Int)]) (_:dX R H CG dx g sg st as rs) (_:zD st rs 6) (_:m<=16) (_:(∀k:Nat,k<m->wJ st rs 6 (nm,r,c,((1+k:Nat):Int)))) (_:∀H',az H H'->Q (.int (((List.range m).map λk=>CN rs (nm,r,c,((1+k:Nat):Int))).sum:Nat)) H')
theorem As:ay ["_law_grammar_here","_law_name","_law_rows","_law_columns","_law_most"] ["_law_grammar_here","_law_name","_law_rows","_law_columns","_law_most"] (ak rO):=by walk_at "c"
theorem Ac{R:RC}{f CG CN_:Addr}{fd:Ie}(F:cY K "_law_sum" "_law_sum" rO f fd)(nb:NB mg)(yag:mg "sum"=none)(yah:fF P w K mg base (b7 P w) 73 "count_trees" ["grammar","name","rows","columns","cost"] (fm R CG CN_)):aZ P w K mg base bF 74 f fd ["_law_grammar_here","_law_name","_law_rows","_law_columns","_law_most"] (sW R CG):=by
 have sc:=As;walk_at "f"
 ·obtain⟨g,dx,sg,st,as,rs,nm,r,c,m,rfl,_⟩:=h;rfl
 ·obtain⟨g,dx,sg,st,as,rs,nm,r,c,m,rfl,G,cok,hm,dom,q⟩:=h
  have hu:=hr.units;refine⟨_,(ai (aG (ax (lR rfl) rfl yag uE (aa (du ["_law_cost_here"] [0,1,2,3] rfl (bv.of (by kernel_rfl)) (by kernel_rfl) (gW rfl nb.range (bc (aa (ar (aW.m0 bN) (al 4) ah) ad)))
    (λ_ _ _ _=>(av (i:=0) (by show(["_law_cost_here","_law_grammar_here","_law_name","_law_rows","_law_columns"]:List Str).Nodup;decide +kernel) rfl (Or.inl rfl))) (λ_ _ _ _=>cD) (λ_ _ _ _=>(aK (CX:=b7 P w) yah (hr.mono nofun) rfl bf (aa (al 1) (aa (al 2) (aa (al 3) (aa (al 4) (aa (al 0) ad)))))))) ad)))),?_⟩
  walk_at "wp";rw[show((m:Int)+1-1).toNat=m by omega];refine⟨nofun,⋯,⋯,?_⟩;refine fb (lo:=1) (n:=m) (λi acc σ H'=>az H H'/\acc=(List.range i).map (λk=>V.int (CN rs (nm,r,c,((1+k:Nat):Int)):Nat))/\i<=m/\∃x,σ=[x,some (V.ref g),some (V.str (tx nm)),some (V.int (r:Int)),some (V.int (c:Int))]) ⟨az.refl _,rfl,Hs _,_,rfl⟩ ?_ (λ_ _ _ _ h=>h.2.2.1) ?_ ?_
  ·rintro i acc σ H' ⟨_,rfl,hi,_⟩
   rw[G7,List.length_range];exact bb ⋯
  ·rintro i acc σ H' hi ⟨sm,rfl,_,y,rfl⟩
   walk_at "wp";refine⟨g,dx,sg,st,as,rs,6,(nm,r,c,((1+i:Nat):Int)),by simp,G.up sm,cok,.inl ⟨dom i hi,λH2 s2=>⟨sm.trans s2,?_,hi⟩⟩⟩;rw[List.range_succ,Hf];rfl
  ·rintro acc σ H' ⟨sm,rfl,_⟩ l hl
   have e:∀ks:List Nat,(ks.map λk=>((CN rs (nm,r,c,((1+k:Nat):Int)):Nat):Int)).sum=((ks.map λk=>CN rs (nm,r,c,((1+k:Nat):Int))).sum:Nat):=λks=>by
    induction ks with
    |nil=>rfl
    |cons k ks ih=>rw[Hx,List.sum_cons,ih,Hx,List.sum_cons];push_cast;rfl
   refine⟨(List.range m).map λk=>((CN rs (nm,r,c,((1+k:Nat):Int)):Nat):Int),by rw[Hh];exact aN.of ac,?_⟩;rw[e];exact q _ (sm.trans (af hl))
section
variable {X:Cx}
noncomputable def DJ:List V->Hp->VK->Prop:=λxs H Q=>∃b,xs=[.bl b]/\Q (.int (if b=true then 1 else 0)) H
theorem tZ:ft X (.type "int") DJ:=by
 intro pins s σ H xs us Q I r h;obtain⟨b,rfl,q⟩:=h;obtain⟨u,rfl,ru⟩:=nr r;obtain rfl:u=Value.bool b:=ru;exact PySem.call_int_bool ⟨.int _,H,I.tok _,⟨_,rfl⟩,q⟩
end
theorem yQ{α:Type}{xs:List α}{j:Nat}{v:α}(h:j<xs.length)(e:xs[xs.length-1-j]?=some v):dY xs (-1-(j:Int))=some v:=by
 unfold dY Cc;rw[if_neg ⋯,if_pos ⋯,Option.bind_some,show(-1-(j:Int)+(xs.length:Int)).toNat=xs.length-1-j by omega];exact e
theorem bI.trd:∀t:bI,TrD t.d
 | .n0 i=>.mk i [] λd hd=>nomatch hd
 | .n1 i a=>.mk i [a.d] λd hd=>by rw[G8.mp hd];exact a.trd
 | .n2 i a b=>.mk i [a.d,b.d] λd hd=>by
  rcases Hi.mp hd with rfl | hd
  ·exact a.trd
  ·rw[G8.mp hd];exact b.trd
theorem bI.ddep:∀t:bI,t.d.dep<=t.dep
 | .n0 i=>by simp[bI.d,Dt.dep,Dt.deps,bI.dep]
 | .n1 i a=>by have:=a.ddep;simp[bI.d,Dt.dep,Dt.deps,bI.dep];omega
 | .n2 i a b=>by have:=a.ddep;have:=b.ddep;simp[bI.d,Dt.dep,Dt.deps,bI.dep];omega
theorem xl{rs:Yaa}(hg:∀r∈rs,dZ r){nm:HY}{r c:Nat}{ts:List bI}(nd:ts.Nodup)(h:∀t∈ts,∃k pc,Sd rs t (nm,r,c,k) pc/\1<=k/\k<=9)(hr:1<=r/\r<=6/\1<=c/\c<=6):ts.length<=((List.range 9).map λk=>CN rs (nm,r,c,((1+k:Nat):Int))).sum:=by
 classical
 have hl:ts.length<=((List.range 9).flatMap λk=>RT rs (nm,r,c,((1+k:Nat):Int))).length:=by
  refine lm nd λt ht=>?_;obtain⟨k,pc,sd,k1,k9⟩:=h t ht;refine List.mem_flatMap.mpr ⟨(k-1).toNat,List.mem_range.mpr ⋯,?_⟩;have e:((1+(k-1).toNat:Nat):Int)=k:=by omega
  rw[e];exact Sd.mem hg t.dep (Hr _) sd (show k<=16 by omega)
 refine Hy hl (Nat.le_of_eq ?_);rw[og];refine congrArg List.sum (List.map_congr_left λk hk=>?_);have:=List.mem_range.mp hk;exact lZ (fM hg) ⟨hr.1,hr.2.1,hr.2.2.1,hr.2.2.2,by show((1+k:Nat):Int)<=16;omega⟩
theorem gG{o1 o2:HY}{left:Int}{r c:Nat}(h6:left<=6):∀(szs:List ((Nat×Nat)×(Nat×Nat))),(∀z∈szs,xO r c z)->(aO o1 o2 szs left).length<=szs.length*5
 | [],_=>Hr _
 |z::szs,h=>by
  have ih:=gG (o1:=o1) (o2:=o2) h6 szs λz' hz'=>h z' (Hj _ hz');have f1:=ck (h z List.mem_cons_self).a (h z List.mem_cons_self).b;have f2:=ck (h z List.mem_cons_self).d (h z List.mem_cons_self).e;unfold aO at ih ⊢;rw[List.flatMap_cons,Hq,He,G7];unfold iY at ih ⊢;rw[G7,List.length_range];omega
theorem tG{q:Nat×RV}{r c:Nat}{k:Int}(h4:q.1<4)(hq:1<=q.2.c)(hr:1<=r)(hc:1<=c)(hr6:r<=6)(hc6:c<=6)(hk:k<=7):(bP q r c k).length<=25:=by
 obtain⟨t,v⟩:=q;have:t=0\/t=1\/t=2\/t=3:=by simp at h4;omega
 simp only at hq;rcases this with rfl | rfl | rfl | rfl
 ·show(if r=1/\c=1/\k=v.c then[[]] else[]).length<=25
  split<;>simp
 ·refine Hy (gG (by show k-v.c<=6;omega) _ λz hz=>jx hr hz) ?_
  rw[io];omega
 ·refine Hy (gG (by show k-v.c<=6;omega) _ λz hz=>jF hc hz) ?_
  rw[ik];omega
 ·show([[_]]:List (List TR)).length<=25
  simp
theorem Cr{rs:Yaa}(gc:fz rs)(h14:rs.length<=15){p:TR}(hr:p.2.1<=6)(hc:p.2.2.1<=6)(hk:p.2.2.2<=7):CN rs p<2 ^ 64:=by
 have:=wf (B:=9) (L:=25) (kx:=7) gc (λq hq r c k r1 r6 c1 c6 hk=>tG (gc q hq).1 (gc q hq).2.1 r1 c1 r6 c6 hk) (Hy (Nat.mul_le_mul_right 25 h14) nofun) 17 p hr hc hk;exact HH (Hy this (Nat.pow_le_pow_right nofun (by omega:9*p.2.2.2.toNat<=63))) nofun
theorem dA.rev{H H':Hp}{l l':Addr}{ts:Ib}{rs:Yaa}(h:dA H l ts rs)(s:az H H')(e:H' l'=some (.lst (ts.map V.ref).reverse)):dA H' l' ts.reverse rs.reverse:=by
 refine⟨by rw[e,List.map_reverse],by rw[Hk,Hk,h.2.1],λi t r e1 e2=>?_⟩;have hi:i<ts.length:=by have:=(G5.mp e1).1;rwa [Hk]at this
 rw[List.getElem?_reverse hi]at e1;rw[List.getElem?_reverse (by rw[<- h.2.1];exact hi),<- h.2.1]at e2;exact s _ _ (h.2.2 _ t r e1 e2)
theorem BM{α:Type}(F:α->V)(zs:List α)(lo hi:Option Int):∃zs':List α,l8 (zs.map F) lo hi=zs'.map F/\(∀z∈zs',z∈zs)/\zs'.length<=zs.length:=by
 unfold l8;rw[<- List.map_drop,<- List.map_take];exact⟨_,rfl,λz hz=>List.mem_of_mem_drop (List.mem_of_mem_take hz),by rw[HF,HG];omega⟩
theorem Sd.pos{rs:Yaa}(hg:∀r∈rs,dZ r){t:bI}{p:TR}{pc:bz}(h:Sd rs t p pc)(k16:p.2.2.2<=16):0<CN rs p:=by
 have hm:=Sd.mem hg t.dep (Hr _) h k16;rw[<- lZ (fM hg) (h.row hg k16)];exact List.length_pos_of_mem hm
theorem l5{α:Type}(P:α->Prop)[DecidablePred P](g:α->V):∀zs:List α,∃as:List α,zs.filterMap (λy=>if P y then some (g y) else none)=as.map g/\(∀y∈as,y∈zs/\P y)/\as.length<=zs.length
 | []=>⟨[],rfl,λy hy=>(nomatch hy),Hr _⟩
 |z::zs=>by
  obtain⟨as,e,h,hl⟩:=l5 P g zs
  by_cases hp:P z
  ·refine⟨z::as,?_,λy hy=>?_,by simp;omega⟩
   ·rw[List.filterMap_cons_some (by rw[if_pos hp]),e];rfl
   ·rcases Hi.mp hy with rfl | hy
    ·exact⟨List.mem_cons_self,hp⟩
    ·exact⟨Hj _ (h y hy).1,(h y hy).2⟩
  ·refine⟨as,?_,λy hy=>⟨Hj _ (h y hy).1,(h y hy).2⟩,by simp;omega⟩
   rw[List.filterMap_cons_none (by rw[if_neg hp]),e]
noncomputable abbrev pK:Stmt:=kD 64
inductive qH(K:W.Frag)(vs:List V)(H:Hp)(Q:VK)(_E:XK):Prop
 |mk (a:Addr) (ns:List Int) (_:vs=[.ref a]) (_:aN K H a (ns.map V.int)) (_:∀H',Q (.bl true) H')
theorem Db:ay ["_law_script","_law_dear","_law_side","_law_limit","_law_drawn","_law_rules","_law_stock","_law_t","_law_grammar_here","_law_whole_here","_law_other","_law_tree","_law_name","_law_picture","_law_cost_here","_law_rows","_law_columns","_law_many","_law_alike","_law_unlike","_law_one"] ["_law_script"] (ak pK):=by walk_at "c"
theorem Ce{R:RC}{f CG yaa:Addr}{fd:Ie}(F:cY K "law" "law" pK f fd)(nb:NB mg)(zFa:fF P w K mg base bF 1 "_law_cell" ["_law_script","_law_k"] (l7 K))(zGe:fF P w K mg base bF 2 "_law_cells" ["_law_script","_law_begin","_law_most"] (m4 K))(zHe:fF P w K mg base bF 1 "_law_whole" ["_law_x"] nW)(zIe:fF P w K mg base bF 1 "_law_signs" ["_law_cell_here","_law_most"] oH)(zJe:fF P w K mg base bF 2 "_law_names" ["_law_cell_here"] nC)
  (zKe:fF P w K mg base bF 4 "_law_grown" ["_law_cells_here","_law_drawn"] nO) (zKb:fF P w K mg base bF 7 "_law_grammar" ["_law_signs_here","_law_start","_law_rules"] (kY R CG)) (zlb:fF P w K mg base bF 8 "turned_grammar" ["grammar","t"] (fY R CG)) (yah:fF P w K mg base (b7 P w) 73 "count_trees" ["grammar","name","rows","columns","cost"] (fm R CG yaa)) (zJb:fF P w K mg base bF 18 "_law_laid" ["_law_rules","_law_tree","_law_side"] (mh 16)) (zPf:fF P w K mg base bF 74 "_law_sum" ["_law_grammar_here","_law_name","_law_rows","_law_columns","_law_most"] (sW R CG)):aZ P w K mg base bF 75 f fd ["_law_script"] (qH K):=by
 have sc:=Db;walk_at "f"
 ·obtain⟨a,ns,rfl,_⟩:=h;rfl
 ·obtain⟨a,ns,rfl,ha,q⟩:=h
  have hu:=hr.units;have hu2:=hr.units210;refine⟨_,(WB.out (BB (Br (Da (CZ (vj (qW (qW (qW rH)))) (CZ (vj (qW (qW (qW rH)))) (CZ (vj (qW (qW (qW rH)))) rH)))) (ar (aW.m1 aQ) (ar (aW.m1 a_) (aK zFa (hr.mono nofun) rfl bg (aa (al 0) (bc ad))) ah) ah) (λ_ _=>rfl) (gI (n:=3) rfl (aL (av (i:=1) sc.nd rfl (Or.inl rfl)) (aL (av (i:=2) sc.nd rfl (Or.inl rfl)) (aL (av (i:=3) sc.nd rfl (Or.inl rfl)) c_)))))
   (ae (aB (i:=4) sc.nd rfl (Or.inl rfl) (aY (aa (aK zIe (hr.mono nofun) rfl bg (aa (aK zFa (hr.mono nofun) rfl bg (aa (al 0) (bc ad))) (bc ad))) (aa (aK zJe (hr.mono nofun) rfl bg (aa (aK zFa (hr.mono nofun) rfl bg (aa (al 0) (bc ad))) ad)) (aa (al 1) (aa (al 2) (aa (al 3) ad)))))))
   (ae (ng (aK zKe (hr.mono nofun) rfl bg (aa (aK zGe (hr.mono nofun) rfl bg (aa (al 0) (bc (bc ad)))) (aa (al 4) ad))) (gI (n:=2) rfl (aL (av (i:=5) sc.nd rfl (Or.inr rfl)) (aL (av (i:=6) sc.nd rfl (Or.inl rfl)) c_))))
   (ae (aB (i:=7) sc.nd rfl (Or.inl rfl) (ar (aW.m1 aQ) (aK zFa (hr.mono nofun) rfl bg (aa (al 0) (bc ad))) ah))
   (ae (aB (i:=8) sc.nd rfl (Or.inl rfl) (aK zKb (hr.mono nofun) rfl bg (aa (aD aF (al 4) ah (λ_ _=>rfl)) (aa (aD bi (aD aF (al 4) ah (λ_ _=>rfl)) ah (λ_ _=>rfl)) (aa (al 5) ad)))))
   (ae (aB (i:=9) sc.nd rfl (Or.inl rfl) (aK zlb (hr.mono nofun) rfl bg (aa (al 8) (aa (al 7) ad))))
   (ae (aB (i:=10) sc.nd rfl (Or.inl rfl) (aK zKb (hr.mono nofun) rfl bg (aa (aD aF (al 4) ah (λ_ _=>rfl)) (aa (aD bi (aD aF (al 4) ah (λ_ _=>rfl)) ah (λ_ _=>rfl)) (aa (tJ rfl (al 5) rfl nb.list rfl nb.reversed) ad)))))
   (ae (bD PassesOwn.never rfl (bX (fH A' (al 6) (fR (ar (aW.m0 bN) (B6 z_ ah) (ar (aW.m1 dN) ah (cw tZ rfl nb.int zG (aa (hV sR (al 3) ah (aI _)) ad))))) jB)) (gI (n:=4) rfl (aL (av (i:=11) sc.nd rfl (Or.inl rfl)) (aL (av (i:=12) sc.nd rfl (Or.inr rfl)) (aL (av (i:=13) sc.nd rfl (Or.inr rfl)) (aL (av (i:=14) sc.nd rfl (Or.inl rfl)) c_)))))
   (ae (aB (i:=15) sc.nd rfl (Or.inl rfl) (ax aU rfl nb.len aR (aa (al 13) ad)))
   (ae (aB (i:=16) sc.nd rfl (Or.inl rfl) (ax aS rfl nb.len aR (aa (aD bi (al 13) ah (λ_ _=>rfl)) ad)))
   (ae (aB (i:=17) sc.nd rfl (Or.inl rfl) (aK (CX:=b7 P w) yah (hr.mono nofun) rfl bf (aa (al 8) (aa (al 12) (aa (al 15) (aa (al 16) (aa (al 14) ad)))))))
   (ae (bj (PW.pt (my (kF (iy (aK zHe (hr.mono nofun) rfl bg (aa (al 17) ad)) λ_=>rfl)) (my (aE (aW.m0 qd) (al 17) ah (aI _)) (kt (aE sR (aK (CX:=b7 P w) yah (hr.mono nofun) rfl bf (aa (al 10) (aa (al 12) (aa (al 15) (aa (al 16) (aa (al 14) ad)))))) (al 17) (aI _))))))
   (ai (aG tV))
   aJ)
   (ae (bj (aE cI (ar (aW.m1 aQ) (al 7) ah) ah (aI _))
   (ae (aB (i:=15) sc.nd rfl (Or.inl rfl) (ax aS rfl nb.len aR (aa (aD bi (al 13) ah (λ_ _=>rfl)) ad)))
   (ai (aB (i:=16) sc.nd rfl (Or.inl rfl) (ax aU rfl nb.len aR (aa (al 13) ad)))))
   aJ)
   (ai (bj (aE sR (aK (CX:=b7 P w) yah (hr.mono nofun) rfl bf (aa (al 9) (aa (al 12) (aa (al 15) (aa (al 16) (aa (al 14) ad)))))) (al 17) (aI _))
   (ai (aG tV))
   aJ))))))))
   (ae (ng (aD bi (al 6) (B6 z_ ah) (λ_ _=>rfl)) (gI (n:=4) rfl (aL (av (i:=11) sc.nd rfl (Or.inl rfl)) (aL (av (i:=12) sc.nd rfl (Or.inr rfl)) (aL (av (i:=13) sc.nd rfl (Or.inr rfl)) (aL (av (i:=14) sc.nd rfl (Or.inl rfl)) c_))))))
   (ae (dM (i:=18) ["_law_one"] [12,13] sc.nd rfl (Or.inl rfl) rfl  rfl (bv.of (by kernel_rfl)) (by kernel_rfl) (bX (al 6))
    (λ_ _ _ _=>(av (i:=0) (by show(["_law_one","_law_name","_law_picture"]:List Str).Nodup;decide +kernel) rfl (Or.inl rfl))) (λ_ _ _ _=>(qX (PW.pt (kC (aE cI (aD (k6 (K:=K) rfl) (al 0) ah (λ_ _=>rfl)) (al 1) (aI _)) (kX (aE cI (ax (nX (K:=K) rfl) rfl nb.len aR (aa (aD (k6 (K:=K) rfl) (al 0) ah (λ_ _=>rfl)) ad)) (ax (nX (K:=K) rfl) rfl nb.len aR (aa (al 2) ad)) (aI _))))))) (λ_ _ _ _=>(aD (k6 (K:=K) rfl) (al 0) ah (λ_ _=>rfl))))
   (ae (dM (i:=18) ["_law_one"] [5,13] sc.nd rfl (Or.inl rfl) rfl  rfl (bv.of (by kernel_rfl)) (by kernel_rfl) (bX (al 18))
    (λ_ _ _ _=>(av (i:=0) (by show(["_law_one","_law_rules","_law_picture"]:List Str).Nodup;decide +kernel) rfl (Or.inl rfl))) (λ_ _ _ _=>(qX (aE cI (ax aS rfl nb.len aR (aa (aD (tq (K:=K) rfl) (aK zJb (hr.mono nofun) rfl bg (aa (al 1) (aa (al 0) (bc ad)))) ah (λ_ _=>rfl)) ad)) (ax aS rfl nb.len aR (aa (aD (tq (K:=K) rfl) (al 2) ah (λ_ _=>rfl)) ad)) (aI _)))) (λ_ _ _ _=>(al 0)))
   (ae (bj (aE sR (al 3) ah (aI _))
   (ai (aG tV))
   aJ)
   (ae (aB (i:=19) sc.nd rfl (Or.inl rfl) (bq ad))
   (ae (bD PassesOwn.never rfl (bX (al 18)) (av (i:=20) sc.nd rfl (Or.inl rfl))
   (ai (bj (aE (w4 hu2) (al 20) (al 19) (by with_unfolding_all rfl))
   (ai (bu (gX PySem.F.plainAttrs_list PySem.F.slot_list_append PySem.F.type_list_append cA (al 19) (aa (al 20) ad))))
   aJ)))
   (ai (aG (hV (aW.m0 BV) (aK zPf (hr.mono nofun) rfl bg (aa (al 8) (aa (al 12) (aa (ax aU rfl nb.len aR (aa (al 13) ad)) (aa (ax aS rfl nb.len aR (aa (aD bi (al 13) ah (λ_ _=>rfl)) ad)) (aa (al 3) ad)))))) (ax aU rfl nb.len aR (aa (al 19) ad)) (aI _))))))))))))))))))),?_⟩
  walk_at "n";refine⟨am nofun,λp0 hp0=>⟨am nofun,λp1 hp1=>⟨am nofun,λp2 hp2=>⟨am nofun,λp3 hp3=>?_⟩⟩⟩⟩;have s1:=af (o:=.tup [V.int 2,V.int 3,V.int 9]) hp0;have e1:au H p0 (.tup [V.int 2,V.int 3,V.int 9]) p0=some (.tup [V.int 2,V.int 3,V.int 9]):=ac;generalize au H p0 (.tup [V.int 2,V.int 3,V.int 9])=H1 at s1 e1 hp1 hp2 hp3 ⊢;have s2:=af (o:=.tup [V.int 9,V.int 3,V.int 16]) hp1;have e2:au H1 p1 (.tup [V.int 9,V.int 3,V.int 16]) p1=some (.tup [V.int 9,V.int 3,V.int 16]):=ac;generalize au H1 p1 (.tup [V.int 9,V.int 3,V.int 16])=H2 at s2 e2 hp2 hp3 ⊢;have s3:=af (o:=.tup [V.int 1,V.int 6,V.int 8]) hp2;have e3:au H2 p2 (.tup [V.int 1,V.int 6,V.int 8]) p2=some (.tup [V.int 1,V.int 6,V.int 8]):=ac;generalize au H2 p2 (.tup [V.int 1,V.int 6,V.int 8])=H3 at s3 e3 hp3 ⊢;have s4:=af (o:=.lst [V.ref p0,V.ref p1,V.ref p2]) hp3;have e4:au H3 p3 (.lst [V.ref p0,V.ref p1,V.ref p2]) p3=some (.lst [V.ref p0,V.ref p1,V.ref p2]):=ac;generalize au H3 p3 (.lst [V.ref p0,V.ref p1,V.ref p2])=H4 at s4 e4 ⊢;have s04:=((s1.trans s2).trans s3).trans s4;refine⟨a,ns,2,rfl,s04.seq ha,⋯,λc2=>⟨_,rfl,_,aN.of e4,?_⟩⟩;obtain⟨pt,de,si,li,hat,hpt,d1,d9,si6,li1,li16⟩:∃(pt:Addr) (de si li:Int),dY [V.ref p0,V.ref p1,V.ref p2] (c2/8%3)=some (V.ref pt)/\H4 pt=some (.tup [V.int de,V.int si,V.int li])/\1<=de/\de<=9/\si<=6/\1<=li/\li<=16:=by
   have:c2/8%3=0\/c2/8%3=1\/c2/8%3=2:=by omega
   rcases this with e | e | e<;>rw[e]
   ·exact⟨p0,2,3,9,rfl,s4 _ _ (s3 _ _ (s2 _ _ e1)),nofun,nofun,nofun,nofun,nofun⟩
   ·exact⟨p1,9,3,16,rfl,s4 _ _ (s3 _ _ e2),nofun,nofun,nofun,nofun,nofun⟩
   ·exact⟨p2,1,6,8,rfl,s4 _ _ e3,nofun,nofun,nofun,nofun,nofun⟩
  refine⟨_,hat,_,rfl,_,bx.of hpt,rfl,_,_,rfl,_,_,rfl,_,_,rfl,rfl,h1 _ _ ?_⟩;clear h1 e1 e2 e3 e4 s1 s2 s3 s4 hpt hat hp0 hp1 hp2 hp3 H1 H2 H3 p0 p1 p2 p3 pt;walk_at "n";refine⟨a,ns,0,rfl,s04.seq ha,⋯,λc0=>⟨c0,rfl,λsg H5 hsg s5=>⟨a,ns,1,rfl,(s04.trans s5).seq ha,⋯,λc1=>⟨c1,rfl,λlb p H6 hb0 hb hp4 hpn s6=>⟨am nofun,λtd htd=>h1 _ _ ?_⟩⟩⟩⟩⟩;clear h1;have s7:=af (o:=.tup [V.str (tx sg),V.ref lb,V.int de,V.int si,V.int li]) htd;have etd:au H6 td (.tup [V.str (tx sg),V.ref lb,V.int de,V.int si,V.int li]) td=some (.tup [V.str (tx sg),V.ref lb,V.int de,V.int si,V.int li]):=ac;have hb7:=s7 _ _ hb;have s07:=((s04.trans s5).trans s6).trans s7;generalize au H6 td (.tup [V.str (tx sg),V.ref lb,V.int de,V.int si,V.int li])=H7 at s07 etd hb7 ⊢;clear s7 s6 s5 s04 hb hb0 htd;walk_at "n";refine⟨a,ns,3,14,rfl,s07.seq ha,⋯,⋯,⋯,λlc cs H8 hlc0 hlc cs1 cs14 s8=>⟨lc,td,lb,cs,p,sg,de,si,li,rfl,hlc,cs14,s8 _ _ etd,s8 _ _ hb7,hp4,hpn,hsg,d1,d9,si6,li1,λtp lr ls ts rs zs H9 htp g h14 hz0 hz14 s9=>⟨tp,rfl,_,bx.of htp,rfl,_,_,rfl,_,_,rfl,rfl,h1 _ _ ?_⟩⟩⟩;clear h1;have s09:=(s07.trans s8).trans s9;have etd9:=s9 _ _ (s8 _ _ etd);have hb9:=s9 _ _ (s8 _ _ hb7);clear s9 s8 s07 htp hlc0 hlc etd hb7;have hzl:0<zs.length:=Nat.pos_of_ne_zero λe=>hz0 (HI.mp e);have yaK:=g.rows;have hro:=g.ro;have yac:∀r∈rs,dZ r:=λr hr=>(g.ro r hr).good;have hsl:=ii hsg;obtain⟨st,hst,at0⟩:∃st∈p,dY (aH p) 0=some (V.str (tx st)):=⟨p[0]'⋯,Hc _,(show dY _ ((0:Nat):Int)=_ from br (bw ⋯))⟩;have hn0:=jG (hpn _ hst);have mk:∀{rs'},(∀r∈rs',fo p sg r)->rs'.length<=15->fK sg st rs'=none:=λh h15=>yr hsg hst hpn ⋯ ⋯ h;have cok:∀{rs'},(∀r∈rs',fo p sg r)->rs'.length<=15->zD st rs' 6:=fun{rs'} h h15=>⟨fM λr hr=>(h r hr).good,λq hq=>(h q hq).good.good.t0,λp a b c=>Cr (fM λr hr=>(h r hr).good) h15 a b c,nofun,⋯,by
   have:=mk h h15;unfold fK at this
   split at this
   ·cases this
   ·split at this
    ·cases this
    ·omega⟩
  have dom:∀{rs':Yaa} {nm:HY} {r c:Nat} {k:Int},(∃q∈rs',q.2.n=nm)->1<=r->r<=6->1<=c->c<=6->-8<=k->k<=16->wJ st rs' 6 (nm,r,c,k):=fun{rs' nm r c k} ⟨q,hq,hn⟩ r1 r6 c1 c6 k0 k16=>⟨(oj _ _ _).mpr (.inr ⟨(tx q.2.n,(bt q.1 q.2).map tx),by unfold Cl;exact List.mem_map_of_mem (f:=λr:Nat×RV=>(tx r.2.n,(bt r.1 r.2).map tx)) hq,.inl (by show tx nm=tx q.2.n;rw[hn])⟩),r1,r6,c1,c6,k0,k16⟩;walk_at "n";refine⟨a,ns,2,rfl,s09.seq ha,⋯,λc4=>⟨_,rfl,h1 _ _ ?_⟩⟩;clear h1;obtain⟨t,ht,ht8⟩:∃t:Nat,c4%8=(t:Int)/\t<8:=⟨(c4%8).toNat,⋯,⋯⟩;rw[ht];walk_at "n";refine⟨_,bx.of etd9,_,rfl,_,bx.of etd9,_,rfl,_,rfl,_,aN.of hb9,_,at0,lr,sg,st,ts,rs,rfl,yaK,yac,⋯,⋯,⋯,mk hro h14,λg0 d0 a0 H10 G0 s10=>h1 _ _ ?_⟩;walk_at "nc";refine⟨g0,d0,sg,st,a0,rs,t,rfl,ht8,G0,⋯,yac,⋯,⋯,mk (tY ht8 hro) (by rw[kU];exact h14),λg1 d1' a1 H11 G1 s11=>h1 _ _ ?_⟩;clear h1;have s911:=s10.trans s11;have G0:=G0.up s11;walk_at "n";have hR11:=yaK.up s911;refine⟨_,bx.of (s911 _ _ etd9),_,rfl,_,bx.of (s911 _ _ etd9),_,rfl,_,rfl,_,aN.of (s911 _ _ hb9),_,at0,_,aN.of hR11.1,λlv hlv=>?_⟩;have s12:=af (o:=.lst (ts.map V.ref).reverse) hlv;have hRv:=hR11.rev s12 ac;generalize au H11 lv (.lst (ts.map V.ref).reverse)=H12 at s12 hRv ⊢;have hrov:∀r∈rs.reverse,fo p sg r:=λr hr=>hro r (List.mem_reverse.mp hr);have yaV:rs.reverse.length<=15:=by rw[Hk];exact h14
  refine⟨lv,sg,st,ts.reverse,rs.reverse,rfl,hRv,λr hr=>(hrov r hr).good,⋯,⋯,⋯,mk hrov yaV,λg2 d2 a2 H13 G2 s13=>h1 _ _ ?_⟩;clear h1;have yay:=s12.trans s13;have s913:=s911.trans yay;have G0:=G0.up yay;have G1:=G1.up yay;have g:=g.up s913;clear hR11 hRv s12 yay s10 s11 etd9 hb9 yaK hlv;have s013:=s09.trans s913;clear s09 s913 s911 s13;walk_at "n";have items:∀z∈zs,∃(rr cc:Nat),Sd rs z.x.t (z.x.nm,rr,cc,z.x.c) z.x.p/\fk z.x.p rr cc/\1<=z.x.c/\z.x.c<=16/\z.x.t.dep<=16/\(∃q∈rs,q.2.n=z.x.nm):=λz hz=>by
   have zg:=g.good z hz;obtain⟨rr,cc,zsd⟩:=zg.sd;have zlow:((z.x.t.cnt:Nat):Int)<=z.x.c:=(zsd.low yac).2;have zcnt:=z.x.t.cnt1;have zdep:=z.x.t.dep_cnt;have hle:=zg.le;obtain⟨nn,q0,ps,_,hq0,hqn,_⟩:=zsd.node yac;exact⟨rr,cc,zsd,zsd.pic yac,⋯,⋯,⋯,q0,G_ hq0,hqn⟩
  refine⟨_,rfl,_,rfl,_,aN.of g.st,λlp hlp=>?_⟩;obtain⟨zs',ez,hz',hzl'⟩:=BM (λz:FI=>V.ref z.a) zs (some (-3+2*if(!decide (li=9))=true then 1 else 0)) none;rw[ez];have s14:=af (o:=.lst (zs'.map λz=>V.ref z.a)) hlp;have e14:au H13 lp (.lst (zs'.map λz=>V.ref z.a)) lp=some (.lst (zs'.map λz=>V.ref z.a)):=ac;generalize au H13 lp (.lst (zs'.map λz=>V.ref z.a))=H14 at s14 e14 ⊢;refine⟨⟨_,aN.of e14⟩,?_⟩;have G0:=G0.up s14;have G1:=G1.up s14;have G2:=G2.up s14;have g:=g.up s14;refine cR (xs:=zs'.map λz=>V.ref z.a) (λi σ H'=>az H14 H'/\∃y1 y2 y3 y4 y5 y6 y7,σ=[some (V.ref a),some (V.int de),some (V.int si),some (V.int li),some (V.ref td),some (V.ref lr),some (V.ref ls),some (V.int (t:Int)),some (V.ref g0),some (V.ref g1),some (V.ref g2),y1,y2,y3,y4,y5,y6,y7,none,none,none]) ⟨az.refl _,_,_,_,_,_,_,_,rfl⟩ (λi σ H' _ h=>aN.of (h.1 _ _ e14)) ?_ ?_
  ·rintro i x σ H' hx ⟨sm,y1,y2,y3,y4,y5,y6,y7,rfl⟩
   rw[G9]at hx;obtain⟨z,hz,rfl⟩:=Hv.mp hx;have hz:=hz' z (G_ hz);obtain⟨rr,cc,zsd,zp,c1',c16,zdep,hq⟩:=items z hz;have za:=(g.at_ z hz).up sm;obtain⟨hl0,hc0⟩:=jk zp.rc zp.r0;have G0:=G0.up sm;have G1:=G1.up sm;have G2:=G2.up sm;have at00:dY (aH z.x.p) 0=some (V.str (tx z.x.p[0])):=(show dY _ ((0:Nat):Int)=_ from br (bw hl0));have:=zp.c6;have:=zp.r6;have:=zp.c0;have:=zp.r0;have hpos:=zsd.pos yac (show z.x.c<=16 from c16);have hql:(tx z.x.p[0]).length<=sizeLine:=by rw[aw];exact am ⋯
   simp only[wV,sH,j_,yx];refine⟨_,_,rfl,bx.of za.1,rfl,_,_,rfl,_,_,rfl,_,_,rfl,_,_,rfl,rfl,?_⟩;walk_at "n";refine⟨_,aN.of za.2.2.1,h1 _ _ ?_⟩;clear h1;rw[aC,zp.rc.1];walk_at "n";refine⟨_,aN.of za.2.2.1,_,at00,_,rfl,hql,h1 _ _ ?_⟩;clear h1;rw[aw,hc0];walk_at "n";refine⟨g0,d0,sg,st,a0,rs,6,(z.x.nm,rr,cc,z.x.c),rfl,G0,cok hro h14,.inl ⟨dom hq zp.r0 zp.r6 zp.c0 zp.c6 ⋯ c16,λH2 s2=>h1 _ _ ?_⟩⟩;clear h1;have za:=za.up s2;have G1:=G1.up s2;have G2:=G2.up s2;have sm:=sm.trans s2;walk_at "n";refine⟨_,rfl,_,rfl,?_⟩;rw[if_neg nofun,if_neg ⋯];refine⟨g2,d2,sg,st,a2,rs.reverse,6,(z.x.nm,rr,cc,z.x.c),rfl,G2,cok hrov yaV,.inl ⟨dom (let ⟨q,hq1,hq2⟩:=hq;⟨q,List.mem_reverse.mpr hq1,hq2⟩) zp.r0 zp.r6 zp.c0 zp.c6 ⋯ c16,λH3 s3=>?_⟩⟩;rw[show CN rs.reverse (z.x.nm,rr,cc,z.x.c)=CN rs (z.x.nm,rr,cc,z.x.c) from wL rs _ _];refine⟨rfl,?_⟩;rw[if_neg (λh=>h rfl)];refine h1 _ _ ?_;clear h1 G2;have za:=za.up s3;have G1:=G1.up s3;have sm:=sm.trans s3;refine aj λN1 h1=>?_;have last:N1 [some (V.ref a),some (V.int de),some (V.int si),some (V.int li),some (V.ref td),some (V.ref lr),some (V.ref ls),some (V.int (t:Int)),some (V.ref g0),some (V.ref g1),some (V.ref g2),some z.v,some (V.str (tx z.x.nm)),some (V.ref z.lp),some (V.int z.x.c),some (V.int ((if t%2=1 then cc else rr:Nat):Int)),some (V.int ((if t%2=1 then rr else cc:Nat):Int)),some (V.int (CN rs (z.x.nm,rr,cc,z.x.c):Nat)),none,none,none] H3:=by
    refine h1 _ _ ?_;walk_at "wp";have hrt:=tY ht8 hro;refine⟨g1,d1',sg,st,a1,kO t rs,6,(z.x.nm,if t%2=1 then cc else rr,if t%2=1 then rr else cc,z.x.c),rfl,G1,cok hrt (by rw[kU];exact h14),.inl ⟨dom (let ⟨q,hq1,hq2⟩:=hq;⟨_,List.mem_map_of_mem hq1,by show(gP q.1 t q.2).n=_;rw[yX];exact hq2⟩) (by split<;>omega) (by split<;>omega) (by split<;>omega) (by split<;>omega) ⋯ c16,λH4 s4=>?_⟩⟩;rw[show CN (kO t rs) (z.x.nm,if t%2=1 then cc else rr,if t%2=1 then rr else cc,z.x.c)=CN rs (z.x.nm,rr,cc,z.x.c) from wt (λr hr=>⟨(yac r hr).k4,(yac r hr).good.t0,(yac r hr).good.t7⟩) ht8 _ _ _ _ _];refine⟨rfl,?_⟩;rw[if_neg (λh=>h rfl)];exact sm.trans s4
   clear h1;walk_at "wp"
   by_cases h2:t%2=1
   ·rw[if_pos h2,if_pos h2]at last
    rw[if_pos (show(t:Int)%2=1 by omega)];refine⟨_,aN.of za.2.2.1,_,at00,_,rfl,hql,_,aN.of za.2.2.1,?_⟩;rw[aw,hc0,aC,zp.rc.1];exact last
   ·rw[if_neg h2,if_neg h2]at last
    rw[if_neg (show ¬ (t:Int)%2=1 by omega)];exact last
  ·rintro σ H' ⟨sm,y1,y2,y3,y4,y5,y6,y7,rfl⟩
   refine h1 _ _ ?_;walk_at "nc";obtain⟨z,hz,hzat⟩:∃z∈zs,dY (zs.map λz=>V.ref z.a) (-1)=some (V.ref z.a):=⟨zs[zs.length-1]'⋯,Hc _,(show dY _ (-1-((0:Nat):Int))=_ from yQ (by rw[G7];exact hzl) (by rw[G7,G9,G4 ⋯];rfl))⟩;obtain⟨rr,cc,zsd,zp,c1',c16,zdep,hq⟩:=items z hz;have g:=g.up sm;have za:=g.at_ z hz;refine⟨_,aN.of g.st,_,hzat,_,rfl,_,bx.of za.1,rfl,_,_,rfl,_,_,rfl,_,_,rfl,_,_,rfl,rfl,h1 _ _ ?_⟩;clear h1;have G0:=G0.up sm;clear G1 G2;obtain⟨hl0,hc0⟩:=jk zp.rc zp.r0;have at00:dY (aH z.x.p) 0=some (V.str (tx z.x.p[0])):=(show dY _ ((0:Nat):Int)=_ from br (bw hl0));have:=zp.c6;have:=zp.r6;have hql:(tx z.x.p[0]).length<=sizeLine:=by rw[aw];exact am ⋯
   walk_at "n";refine⟨⟨_,aN.of g.st⟩,?_⟩;refine dJ (as:=zs) (emb:=λz=>V.ref z.a) (f:=λy=>if y.x.nm=z.x.nm/\y.x.p.length=z.x.p.length then some y.v else none) (λσ=>∃x,σ=[x,some (V.str (tx z.x.nm)),some (V.ref z.lp)]) ⟨_,rfl⟩ (λH' s=>aN.of (s _ _ g.st)) ⋯ ?_ ?_
   ·rintro i y hy σ H2 M1 M0 ⟨x0,rfl⟩ sm2 k1 k0
    have ya:=(g.at_ y (G_ hy)).up sm2;walk_at "wp";refine⟨_,bx.of ya.1,_,rfl,rfl,cC (λh1'=>?_) (λh1'=>k0 _ _ (if_neg λh=>h1' (by rw[h.1])) sm2 ⟨_,rfl⟩)⟩;have hn:y.x.nm=z.x.nm:=gE (V.str.inj h1');refine⟨_,bx.of ya.1,_,rfl,_,rfl,_,aN.of ya.2.2.1,_,aN.of (sm2 _ _ za.2.2.1),?_⟩;rw[aC,aC];exact cC (λh2=>⟨_,bx.of ya.1,_,rfl,k1 _ _ _ (if_pos ⟨hn,⋯⟩) sm2 ⟨_,rfl⟩⟩) (λh2=>k0 _ _ (if_neg λh=>h2 (by rw[h.2])) sm2 ⟨_,rfl⟩)
   intro H2 sm2 l2 hl2;obtain⟨as1,ea1,ha1,hal1⟩:=l5 (λy:FI=>y.x.nm=z.x.nm/\y.x.p.length=z.x.p.length) (λy=>y.v) zs;rw[ea1];refine h1 _ _ ?_;clear h1;have s3:=sm2.trans (af (o:=.lst (as1.map λy=>y.v)) hl2);have e3:au H2 l2 (.lst (as1.map λy=>y.v)) l2=some (.lst (as1.map λy=>y.v)):=ac;generalize au H2 l2 (.lst (as1.map λy=>y.v))=H3 at s3 e3 ⊢;clear sm2 hl2 H2;have g:=g.up s3;have G0:=G0.up s3;have za:=za.up s3;walk_at "n";refine⟨⟨_,aN.of e3⟩,?_⟩;refine dJ (as:=as1) (emb:=λy=>y.v) (f:=λy=>if(y.x.p.headD []).length=cc then some y.v else none) (λσ=>∃x,σ=[x,some (V.ref lr),some (V.ref z.lp)]) ⟨_,rfl⟩ (λH' s=>aN.of (s _ _ e3)) ⋯ ?_ ?_
   ·rintro i y hy σ H2 M1 M0 ⟨x0,rfl⟩ sm2 k1 k0
    have hyz:=(ha1 y (G_ hy)).1;obtain⟨rr',cc',ysd,yp,_,_,ydep,_⟩:=items y hyz;have ya:=(g.at_ y hyz).up sm2;have hhd:=bT yp.rc yp.r0;obtain⟨yl0,yc0⟩:=jk yp.rc yp.r0;have:=yp.c6;walk_at "wp";have yat:dY (aH y.x.p) 0=some (V.str (tx y.x.p[0])):=(show dY _ ((0:Nat):Int)=_ from br (bw yl0));refine⟨lr,y.v,y.x.t,ts,rs,_,y.x.p,rfl,g.rows.up sm2,yac,ya.2.1,ysd,ydep,λl3 H4 hl3 el3 sm4=>⟨_,rfl,_,aN.of el3,_,yat,_,rfl,by rw[aw];exact am ⋯,_,aN.of (sm4 _ _ (sm2 _ _ za.2.2.1)),_,at00,_,rfl,hql,?_⟩⟩;rw[aw,aw,hc0,yc0];exact cC (λh2=>k1 _ _ _ (if_pos ⋯) (sm2.trans sm4) ⟨_,rfl⟩) (λh2=>k0 _ _ (if_neg ⋯) (sm2.trans sm4) ⟨_,rfl⟩)
   intro H2 sm2 l4 hl4;obtain⟨as2,ea2,ha2,hal2⟩:=l5 (λy:FI=>(y.x.p.headD []).length=cc) (λy=>y.v) as1;rw[ea2];refine h1 _ _ ?_;clear h1;have s4:=sm2.trans (af (o:=.lst (as2.map λy=>y.v)) hl4);have e4:au H2 l4 (.lst (as2.map λy=>y.v)) l4=some (.lst (as2.map λy=>y.v)):=ac;generalize au H2 l4 (.lst (as2.map λy=>y.v))=H4 at s4 e4 ⊢;clear sm2 hl4 H2;have g:=g.up s4;have G0:=G0.up s4;have za:=za.up s4;have its:∀y∈as2,y∈zs/\Sd rs y.x.t (z.x.nm,rr,cc,y.x.c) y.x.p/\1<=y.x.c/\y.x.c<=li/\y.x.t.dep<=16:=λy hy=>by
    obtain⟨h1,h2⟩:=ha2 y hy;obtain⟨h3,h4,h5⟩:=ha1 y h1;obtain⟨rr',cc',ysd,yp,y1,_,ydep,_⟩:=items y h3;have hhd:=bT yp.rc yp.r0;have e1:rr'=rr:=by rw[<- yp.rc.1,h5,zp.rc.1]
    have e2:cc'=cc:=by rw[<- hhd];exact h2
    rw[h4,e1,e2]at ysd;exact⟨h3,ysd,y1,(g.good y h3).le,ydep⟩
   walk_at "n";refine cC (λ_=>q _) (λh9=>h1 _ _ ?_);clear h1;have hli:li=9:=by omega
   walk_at "n";refine⟨Hs _,λlu hlu=>h1 _ _ ?_⟩;clear h1;have s5:=af (o:=.lst []) hlu;have e5:au H4 lu (.lst []) lu=some (.lst []):=ac;generalize au H4 lu (.lst [])=H5 at s5 e5 ⊢;walk_at "n";refine⟨⟨_,aN.of (s5 _ _ e4)⟩,?_⟩;refine cR (xs:=as2.map λy=>y.v) (λi σ H'=>az H4 H'/\i<=as2.length/\(∃us:List FI,H' lu=some (.lst (us.map λy=>y.v))/\(∀u∈us,u∈as2)/\(us.map λy=>y.x.t).Nodup/\us.length<=i)/\∃y1,σ=[some (V.ref a),some (V.int de),some (V.int si),some (V.int li),some (V.ref td),some (V.ref lr),some (V.ref ls),some (V.int (t:Int)),some (V.ref g0),some (V.ref g1),some (V.ref g2),some z.v,some (V.str (tx z.x.nm)),some (V.ref z.lp),some (V.int z.x.c),y5,y6,y7,some (V.ref l4),some (V.ref lu),y1]) ⟨s5,Hs _,⟨[],e5,λu hu=>(nomatch hu),List.nodup_nil,Hr _⟩,_,rfl⟩ (λi σ H' _ h=>aN.of (h.1 _ _ e4)) ?_ ?_
   ·rintro i x σ H' hx ⟨sm5,_,⟨us,hus,hum,hnd,hul⟩,y1,rfl⟩
    rw[G9]at hx;obtain⟨y,hy,rfl⟩:=Hv.mp hx;have hyi:i<as2.length:=(G5.mp hy).1;have hym:=G_ hy;have g:=g.up sm5;have ya:=g.at_ y (its y hym).1;have yd:=(its y hym).2.2.2.2;have ydd:=y.x.t.ddep;walk_at "wp";refine⟨_,aN.of hus,y.x.t.d,cO.rd _ ya.2.1,y.x.t.trd,⋯,_,bC.rd _ (nZ λu hu=>g.at_ u (its u (hum u hu)).1),λd hd=>?_,λb hb=>?_⟩
    ·obtain⟨u,hu,rfl⟩:=HJ.mp hd
     obtain⟨x1,hx1,rfl⟩:=HJ.mp hu;obtain⟨w1,hw1,rfl⟩:=HJ.mp hx1;have:=(its w1 (hum w1 hw1)).2.2.2.2;have:=w1.x.t.ddep;exact⟨bI.trd _,⋯⟩
    cases b with
    |false=>
     rw[if_neg nofun];exact⟨sm5,hyi,us,hus,hum,hnd,⋯⟩
    |true=>
     rw[if_pos rfl];refine⟨.inl ⟨rfl,_,aN.of hus⟩,_,hus,by rw[G7];exact bb ⋯,dI sm5 hlu,hyi,us++[y],by rw[ac,Hf];rfl,λu hu=>?_,?_,by simp;omega⟩
     ·rcases Hg.mp hu with hu | hu
      ·exact hum u hu
      ·rw[G8.mp hu];exact hym
     ·rw[Hf,List.nodup_append]
      refine⟨hnd,by simp,λt1 ht1 t2 ht2 e=>?_⟩;have e2:t2=y.x.t:=by simpa using ht2
      rw[e2]at e;refine hb rfl ?_;rw[<- e];have hm:=List.mem_map_of_mem (f:=bI.d) ht1
      rwa [show us.map (λy=>y.x.t)=(us.map FI.x).map SI.t by rw[Hh];rfl]at hm
   ·rintro σ H' ⟨sm5,_,⟨us,hus,hum,hnd,hul⟩,y1,rfl⟩
    refine h1 _ _ ?_;clear h1;have za:=za.up sm5;walk_at "wp";refine⟨_,aN.of za.2.2.1,_,aN.of za.2.2.1,_,at00,_,rfl,hql,g0,d0,sg,st,a0,rs,z.x.nm,rr,cc,9,?_,G0.up sm5,cok hro h14,nofun,λk hk=>dom hq zp.r0 zp.r6 zp.c0 zp.c6 ⋯ ⋯,λH6 s6=>⟨_,aN.of (s6 _ _ hus),_,rfl,?_⟩⟩
    ·rw[aC,zp.rc.1,aw,hc0,hli];rfl
    have hle:=xl yac hnd (λt1 ht1=>by
     obtain⟨u,hu,rfl⟩:=HJ.mp ht1;obtain⟨_,usd,u1,u9,_⟩:=its u (hum u hu);exact⟨u.x.c,u.x.p,usd,u1,⋯⟩) ⟨zp.r0,zp.r6,zp.c0,zp.c6⟩
    rw[G7]at hle;rw[G7,decide_eq_true ⋯];exact q _
end
theorem bd1{P:List Value->Prop}(h:∀a,P [a]):∀us:List Value,us.length=1->P us:=λus e=>match us,e with|[_],_=>h _
theorem bd2{P:List Value->Prop}(h:∀a b,P [a,b]):∀us:List Value,us.length=2->P us:=λus e=>match us,e with|[_,_],_=>h _ _
theorem bd3{P:List Value->Prop}(h:∀a b c,P [a,b,c]):∀us:List Value,us.length=3->P us:=λus e=>match us,e with|[_,_,_],_=>h _ _ _
theorem bd4{P:List Value->Prop}(h:∀a b c d,P [a,b,c,d]):∀us:List Value,us.length=4->P us:=λus e=>match us,e with|[_,_,_,_],_=>h _ _ _ _
theorem bd5{P:List Value->Prop}(h:∀a b c d e,P [a,b,c,d,e]):∀us:List Value,us.length=5->P us:=λus e=>match us,e with|[_,_,_,_,_],_=>h _ _ _ _ _
theorem bd6{P:List Value->Prop}(h:∀a b c d e f,P [a,b,c,d,e,f]):∀us:List Value,us.length=6->P us:=λus e=>match us,e with|[_,_,_,_,_,_],_=>h _ _ _ _ _ _
def FK(K:W.Frag)(x:Str)(st:Stmt)(f:Addr):Prop:=W.nsIn K mainGlobals x=some (some (.ref f))/\∃oc od osl kV doc pm an cdv ct,K.lookup f=some ⟨oc,od,.func (W.fnOf x x (aX st) (aP st) (ak st) .none kV doc pm an cdv ct),osl⟩/\W.codeIn K cdv x=true/\W.keepIn K (.ref f)=true
theorem fk_mk{K:W.Frag}{x:Str}{st:Stmt}{f:Addr}{oc:Value}{od an:Ik}{osl:Array (Option Value)}{kV doc pm cdv ct:Value}(a:W.nsIn K mainGlobals x=some (some (.ref f)))(l:K.lookup f=some ⟨oc,od,.func (W.fnOf x x (aX st) (aP st) (ak st) .none kV doc pm an cdv ct),osl⟩)(c:W.codeIn K cdv x=true)(k:W.keepIn K (.ref f)=true):FK K x st f:=⟨a,oc,od,osl,kV,doc,pm,an,cdv,ct,l,c,k⟩
theorem FK.cal{K:W.Frag}{x:Str}{st:Stmt}{f:Addr}{h base:Heap}{mg:Ic}{P:Ig}{w:Ij}{CX:j9}{k:Nat}{ps:Ih}{sp:Sp}(q:FK K x st f)(X:K.In h)(G:h.Ns mainGlobals mg)
  (ok:∀fd,cY K x x st f fd->mg x=some (.ref f)->W.keepIn K (.ref f)=true->cV K fd ps []->aZ P w K mg base CX k f fd ps sp)
  (hb:∀(kV doc pm:Value) (an:Ik) (cdv ct:Value) (us:Ia),us.length=ps.length->bindArgs (W.fnOf x x (aX st) (aP st) (ak st) .none kV doc pm an cdv ct) ⟨us,[]⟩=pure (ps.zip us)):fF P w K mg base CX k x ps sp:=by
 obtain⟨a,oc,od,osl,kV,doc,pm,an,cdv,ct,l,c,kk⟩:=q;have F:=bB l c kk;have b:=F.binds hb;exact⟨_,_,ok _ F (W.mg_of X G a) kk b,W.mg_of X G a,kk,b⟩
theorem all_mk{l:W.OpenLaw}{w:Ij}{K:W.Frag}{h:Heap}{mg:Ic}{fa f1 f2 f3 f4 f5 f6 f7 f8 f9 f10 f11 f12 f13 f14 f15 f16 f17 f18 f19 f20 f21 f22 f23 f24 f25 f26 f27 f28 f29 f30:Addr}(X:K.In h)(G:h.Ns mainGlobals mg)(Fu:mg "law"=some (.ref fa))
  (a1:FK K "only_of" lC f1) (a2:FK K "is_name" mi f2) (a3:FK K "are_signs" i5 f3) (a4:FK K "check_made_of" d8 f4) (a5:FK K "numbers_by_name" dv f5) (a6:FK K "fewest" ow f6) (a7:FK K "paired_rows" gs f7) (a8:FK K "count_trees" gx f8) (a9:FK K "after" rK f9) (FU:FK K "back" vp f10) (FT:FK K "turned_pair" gy f11) (Ga:FK K "turned_grammar" dH f12) (F':FK K "_law_cell" oi f13) (GC:FK K "_law_cells" l_ f14) (GV:FK K "_law_whole" l6 f15) (EZ:FK K "_law_signs" mf f16) (EY:FK K "_law_any_names" gq f17) (GK:FK K "_law_names" lJ f18) (GG:FK K "_law_rule" nF f19) (F_:FK K "_law_grammar" iU f20) (GD:FK K "_law_turned" kH f21) (Fi:FK K "_law_joined" kJ f22) (Fz:FK K "_law_noted" lS f23) (GO:FK K "_law_put" rG f24) (GH:FK K "_law_any_rule" ij f25) (ET:FK K "_law_step" nQ f26) (Gb:FK K "_law_grown" lE f27) (Gf:FK K "_law_laid" nA f28) (Ff:FK K "_law_sum" rO f29) (GN:FK K "law" pK f30)
  {zda yaa zca zfb yae zCa zfa zva zaa zoa zba zra zea zwa zja zsa zna zpa zta zga zya zIa zua yab yaw yaq yas yau yav zla zia zka zma zDa:Addr} {ybW ybE ybF yb4 ybu ych ycl:Tok} {yb9 yb8 ybA ybJ ycf zmf znf zke zle zXc zYc zzd zAd zme zne zdg zeg zBd zCd zMc zNc zZc zad zDd zEd zLe zMe zQf zRf zFd zGd ycc ybk yb1 ybB yb6 ybe yb7 ybi ybL yce zmc znc zQb zRb zbc zcc zoc zpc zof zpf:Ik} {zdh ybO zGa:ClassData} {zeh ybV zug ybs zqf zoe zbd zHd zpe zfg zId zOc zcd zJd zNe zSf zKd ybv ybH ybU ybS ybd zqc zSb zdc zrc zrf:Array (Option Value)} {yb5 ybN ybp ycj ya1 ycb zsf ztf zuf zvf zGc zwf zqe zre zse zte zFb zue zdd zed zfd zgd znb zhd zLd zMd zNd zOd ztb zPd zve zwe zxe zye zGb zze zgg zhg zig zjg zOe zkg zQd zRd zSd zTd zub zUd zPc zQc zRc zSc zgb zTc zid zjd zkd zld zob zmd zVd zWd zXd zYd zvb zZd zPe zQe zRe zSe zLb zTe zTf zUf zVf zWf znd zXf zae zbe zce zde zwb zee ybC ybc ybb ybf ya0 ybx ybQ ya9 ybR ybo yaT yb2 ybY ybn yck ybr yaW ybD ycm ya8 yba ycd ya4 ybt yb3 yb0 yca ybz ya7 ycn zsc ztc zuc zvc zZa zwc zTb zUb zVb zWb zPa zXb zec zfc zgc zhc zSa zic zxc zyc zzc zAc zab zBc zxf zyf zzf zAf zHc zBf:Value}  (BN:W.nsIn K mainGlobals "NoRule"=some (some (.ref zda))) (zK:K.lookup zda=some ⟨.type "type",yb9,.cls zdh,zeh⟩) (tf:W.excIn K zda [.type "ValueError",.type "Exception",.type "BaseException",.type "object"] "ValueError.__new__"=true) (xQ:W.findIn K (.ref zda) "__getattribute__"=some (some (.builtin "BaseException.__getattribute__"))) (yb:W.findIn K (.ref zda) "__getattr__"=some none) (xp:W.mroIn K zda (.type "BaseException")=some true) (xo:W.mroIn K zda (.type "object")=some true) (xL:W.findIn K (.ref zda) "__class__"=some (some (.builtin "object.__class__"))) (Bo:W.specialIn K (.builtin "object.__class__") "__get__"=some (some (.builtin "getset_descriptor.__get__"))) (BA:W.takesIn K (.builtin "object.__class__")=some true) (BK:W.nsIn K mainGlobals "NoName"=some (some (.ref yaa))) (yO:K.lookup yaa=some ⟨.type "type",yb8,.cls ybO,ybV⟩) (sI:W.excIn K yaa [.type "ValueError",.type "Exception",.type "BaseException",.type "object"] "ValueError.__new__"=true) (x6:W.findIn K (.ref yaa) "__getattribute__"=some (some (.builtin "BaseException.__getattribute__"))) (yc:W.findIn K (.ref yaa) "__getattr__"=some none) (wU:W.mroIn K yaa (.type "BaseException")=some true) (xr:W.mroIn K yaa (.type "object")=some true) (wT:W.findIn K (.ref yaa) "__class__"=some (some (.builtin "object.__class__"))) (ve:W.nsIn K mainGlobals "NoGrammar"=some (some (.ref zca))) (mB:K.lookup zca=some ⟨.type "type",ybA,.cls zGa,zug⟩) (qx:W.excOut K zca [.type "ValueError",.type "Exception",.type "BaseException",.type "object"] "ValueError.__new__"=true) (qO:W.findIn K (.ref zca) "__getattribute__"=some (some (.builtin "BaseException.__getattribute__"))) (qQ:W.findIn K (.ref zca) "__getattr__"=some none) (ss:W.mroIn K zca (.type "BaseException")=some true) (qi:W.mroIn K zca (.type "object")=some true) (rf:W.findIn K (.ref zca) "__class__"=some (some (.builtin "object.__class__"))) (qm:W.findIn K (.ref zca) "__init__"=some (some (.ref zfb))) (qt:W.typeIn K (.ref zfb)=some (.type "function")) (qR:K.lookup zfb=some ⟨yb5,ybJ,.func (W.fnOf "__init__" "NoGrammar.__init__" (aX jJ) (aP jJ) (ak jJ) .none ybN ybp ycj ycf ya1 ycb),ybs⟩) (ql:W.codeIn K ya1 "NoGrammar.__init__"=true) (qM:W.keepIn K (.ref zfb)=true) (rP:W.findIn K (.ref zca) "__setattr__"=some (some (.builtin "object.__setattr__"))) (qV:W.strip zGa.mro=[.type "ValueError",.type "Exception",.type "BaseException",.type "object"]) (kP:zGa.hasDict=true) (r_:zGa.mro.contains (.type "object")=true) (rN:zGa.mro.isEmpty=false) (rZ:W.findIn K (.ref zca) "why"=some none) (x8:W.nsIn K mainGlobals "CAPITALS"=some (some (.str "ABCDEFGHIJKLMNOPQRSTUVWXYZ" ybW))) (Bk:W.nsIn K mainGlobals "SMALLS"=some (some (.str "abcdefghijklmnopqrstuvwxyz" ybE))) (oW:W.nsIn K mainGlobals "LONGEST_NAME"=some (some (.int 4 ybF))) (DH:W.nsIn K mainGlobals "Rule"=some (some (.ref yae))) (CV:W.specialIn K (.ref yae) "__getattribute__"=some (some (.builtin "type.__getattribute__"))) (Cj:W.readsIn K yae (.type "type")=true) (mJ:W.findCls K (.ref yae) (.type "type") "__init__"=some (.val (.ref zCa))) (mP:K.lookup zCa=some ⟨zsf,zmf,.func (W.fnOf "__init__" "Rule.__init__" (aX dh) (aP dh) (ak dh) .none ztf zuf zvf znf zGc zwf),zqf⟩) (mM:W.codeIn K zGc "Rule.__init__"=true) (EK:W.keepIn K (.ref zCa)=true) (yu:W.isFn K (.ref zCa)=true) (x9:W.nsIn K mainGlobals "CellRule"=some (some (.ref zfa))) (Fy:W.plainGet K zfa Str.empty=true) (EU:W.hasDictIn K zfa=true) (Gn:W.plainOver K zfa=true) (Fo:W.findIn K (.ref zfa) "__setattr__"=some (some (.builtin "object.__setattr__"))) (Gm:W.findIn K (.ref zfa) "__class__"=some (some (.builtin "object.__class__"))) (Gg:W.mroIn K zfa (.type "object")=some true) (Gk:W.findIn K (.ref zfa) "name"=some none) (E6:W.findIn K (.ref zfa) "cost"=some none) (Fc:W.findIn K (.ref zfa) "part_names"=some none) (FO:W.findIn K (.ref zfa) "sign"=some none) (uH:W.makesIn K zfa=true) (vb:W.findIn K (.ref zfa) "__init__"=some (some (.ref zva))) (j6:K.lookup zva=some ⟨zqe,zke,.func (W.fnOf "__init__" "CellRule.__init__" (aX dn) (aP dn) (ak dn) .none zre zse zte zle zFb zue),zoe⟩) (jP:W.codeIn K zFb "CellRule.__init__"=true) (GI:W.keepIn K (.ref zva)=true) (j5:W.isFn K (.ref zva)=true) (vE:W.keepIn K (.ref zfa)=true) (GT:W.kitOne K (.ref zfa) (.ref yae)=some true) (Ez:W.kitOne K (.ref zfa) (.ref zfa)=some true) (sK:W.nsIn K mainGlobals "BesideRule"=some (some (.ref zaa))) (F9:W.plainGet K zaa Str.empty=true) (FA:W.hasDictIn K zaa=true) (FW:W.plainOver K zaa=true) (E8:W.findIn K (.ref zaa) "__setattr__"=some (some (.builtin "object.__setattr__"))) (FD:W.findIn K (.ref zaa) "__class__"=some (some (.builtin "object.__class__"))) (Gp:W.mroIn K zaa (.type "object")=some true) (Gq:W.findIn K (.ref zaa) "name"=some none) (Fw:W.findIn K (.ref zaa) "cost"=some none) (Fd:W.findIn K (.ref zaa) "part_names"=some none) (GM:W.findIn K (.ref zaa) "one"=some none) (GP:W.findIn K (.ref zaa) "other"=some none) (qI:W.makesIn K zaa=true) (qK:W.findIn K (.ref zaa) "__init__"=some (some (.ref zoa))) (iI:K.lookup zoa=some ⟨zdd,zXc,.func (W.fnOf "__init__" "BesideRule.__init__" (aX cB) (aP cB) (ak cB) .none zed zfd zgd zYc znb zhd),zbd⟩) (iG:W.codeIn K znb "BesideRule.__init__"=true) (Gd:W.keepIn K (.ref zoa)=true) (iL:W.isFn K (.ref zoa)=true) (rL:W.keepIn K (.ref zaa)=true) (FF:W.kitOne K (.ref zaa) (.ref yae)=some true) (EE:W.kitOne K (.ref zaa) (.ref zaa)=some true) (vk:W.nsIn K mainGlobals "AboveRule"=some (some (.ref zba))) (E4:W.plainGet K zba Str.empty=true) (GU:W.hasDictIn K zba=true) (FX:W.plainOver K zba=true) (FQ:W.findIn K (.ref zba) "__setattr__"=some (some (.builtin "object.__setattr__"))) (F0:W.findIn K (.ref zba) "__class__"=some (some (.builtin "object.__class__"))) (GQ:W.mroIn K zba (.type "object")=some true) (Fx:W.findIn K (.ref zba) "name"=some none) (EX:W.findIn K (.ref zba) "cost"=some none) (F7:W.findIn K (.ref zba) "part_names"=some none) (E7:W.findIn K (.ref zba) "one"=some none) (EW:W.findIn K (.ref zba) "other"=some none) (sN:W.makesIn K zba=true) (tj:W.findIn K (.ref zba) "__init__"=some (some (.ref zra))) (i':K.lookup zra=some ⟨zLd,zzd,.func (W.fnOf "__init__" "AboveRule.__init__" (aX cP) (aP cP) (ak cP) .none zMd zNd zOd zAd ztb zPd),zHd⟩) (jp:W.codeIn K ztb "AboveRule.__init__"=true) (E5:W.keepIn K (.ref zra)=true) (iM:W.isFn K (.ref zra)=true) (tO:W.keepIn K (.ref zba)=true) (GR:W.kitOne K (.ref zba) (.ref yae)=some true) (Ey:W.kitOne K (.ref zba) (.ref zba)=some true) (ym:W.nsIn K mainGlobals "TurnRule"=some (some (.ref zea))) (E_:W.plainGet K zea Str.empty=true) (Gc:W.hasDictIn K zea=true) (Fb:W.plainOver K zea=true) (Gw:W.findIn K (.ref zea) "__setattr__"=some (some (.builtin "object.__setattr__"))) (E3:W.findIn K (.ref zea) "__class__"=some (some (.builtin "object.__class__"))) (Fl:W.mroIn K zea (.type "object")=some true) (FH:W.findIn K (.ref zea) "name"=some none) (Fk:W.findIn K (.ref zea) "cost"=some none) (GW:W.findIn K (.ref zea) "part_names"=some none) (FZ:W.findIn K (.ref zea) "part"=some none) (EV:W.findIn K (.ref zea) "turning"=some none) (vg:W.makesIn K zea=true) (uz:W.findIn K (.ref zea) "__init__"=some (some (.ref zwa))) (jL:K.lookup zwa=some ⟨zve,zme,.func (W.fnOf "__init__" "TurnRule.__init__" (aX dj) (aP dj) (ak dj) .none zwe zxe zye zne zGb zze),zpe⟩) (jN:W.codeIn K zGb "TurnRule.__init__"=true) (Fj:W.keepIn K (.ref zwa)=true) (jO:W.isFn K (.ref zwa)=true) (uC:W.keepIn K (.ref zea)=true) (GF:W.kitOne K (.ref zea) (.ref yae)=some true) (Ew:W.kitOne K (.ref zea) (.ref zea)=some true) (tU:W.nsIn K mainGlobals "MOST_SIGNS"=some (some (.int 4 yb4))) (tI:W.nsIn K mainGlobals "MOST_RULES"=some (some (.int 24 ybu))) (uc:W.nsIn K mainGlobals "MOST_NAMES"=some (some (.int 8 ych))) (DN:W.nsIn K mainGlobals "MOST"=some (some (.int 6 ycl))) (Gs:W.kitOne K (.ref zfa) (.ref zaa)=some false) (FJ:W.kitOne K (.ref zfa) (.ref zba)=some false) (GA:W.kitOne K (.ref zfa) (.ref zea)=some false) (Fm:W.kitOne K (.ref zaa) (.ref zfa)=some false) (GJ:W.kitOne K (.ref zaa) (.ref zba)=some false) (FC:W.kitOne K (.ref zaa) (.ref zea)=some false) (FR:W.kitOne K (.ref zba) (.ref zfa)=some false) (FN:W.kitOne K (.ref zba) (.ref zaa)=some false) (Fq:W.kitOne K (.ref zba) (.ref zea)=some false) (Fr:W.kitOne K (.ref zea) (.ref zfa)=some false) (GL:W.kitOne K (.ref zea) (.ref zaa)=some false) (Fp:W.kitOne K (.ref zea) (.ref zba)=some false) (lH:W.findIn K (.ref zfa) "parts"=some (some (.ref zja))) (se:K.lookup zja=some ⟨zgg,zdg,.func (W.fnOf "parts" "Rule.parts" (aX cT) (aP cT) (ak cT) .none zhg zig zjg zeg zOe zkg),zfg⟩) (rE:W.codeIn K zOe "Rule.parts"=true) (DL:W.keepIn K (.ref zja)=true) (eN:W.isFn K (.ref zja)=true) (jl:W.findIn K (.ref zfa) "part_rows"=some (some (.ref zsa))) (jj:K.lookup zsa=some ⟨zQd,zBd,.func (W.fnOf "part_rows" "CellRule.part_rows" (aX dl) (aP dl) (ak dl) .none zRd zSd zTd zCd zub zUd),zId⟩) (jr:W.codeIn K zub "CellRule.part_rows"=true) (EC:W.keepIn K (.ref zsa)=true) (iQ:W.isFn K (.ref zsa)=true) (ke:W.findIn K (.ref zaa) "parts"=some (some (.ref zja))) (hZ:W.findIn K (.ref zaa) "part_rows"=some (some (.ref zna))) (ib:K.lookup zna=some ⟨zPc,zMc,.func (W.fnOf "part_rows" "BesideRule.part_rows" (aX cz) (aP cz) (ak cz) .none zQc zRc zSc zNc zgb zTc),zOc⟩) (iu:W.codeIn K zgb "BesideRule.part_rows"=true) (EN:W.keepIn K (.ref zna)=true) (iq:W.isFn K (.ref zna)=true) (ld:W.findIn K (.ref zba) "parts"=some (some (.ref zja))) (iH:W.findIn K (.ref zba) "part_rows"=some (some (.ref zpa))) (iC:K.lookup zpa=some ⟨zid,zZc,.func (W.fnOf "part_rows" "AboveRule.part_rows" (aX cS) (aP cS) (ak cS) .none zjd zkd zld zad zob zmd),zcd⟩) (iE:W.codeIn K zob "AboveRule.part_rows"=true) (EO:W.keepIn K (.ref zpa)=true) (iK:W.isFn K (.ref zpa)=true) (lM:W.findIn K (.ref zea) "parts"=some (some (.ref zja))) (jn:W.findIn K (.ref zea) "part_rows"=some (some (.ref zta))) (i7:K.lookup zta=some ⟨zVd,zDd,.func (W.fnOf "part_rows" "TurnRule.part_rows" (aX dr) (aP dr) (ak dr) .none zWd zXd zYd zEd zvb zZd),zJd⟩) (iP:W.codeIn K zvb "TurnRule.part_rows"=true) (EJ:W.keepIn K (.ref zta)=true) (iS:W.isFn K (.ref zta)=true) (AA:W.nsIn K mainGlobals "Grammar"=some (some (.ref zga))) (Gz:W.plainGet K zga Str.empty=true) (Fe:W.hasDictIn K zga=true) (E9:W.plainOver K zga=true) (FE:W.findIn K (.ref zga) "__setattr__"=some (some (.builtin "object.__setattr__"))) (FS:W.findIn K (.ref zga) "__class__"=some (some (.builtin "object.__class__"))) (Fg:W.mroIn K zga (.type "object")=some true) (Fh:W.findIn K (.ref zga) "signs"=some none) (Gh:W.findIn K (.ref zga) "start"=some none) (Go:W.findIn K (.ref zga) "kept"=some none) (F5:W.findIn K (.ref zga) "numbers"=some none) (wX:W.makesIn K zga=true) (xA:W.findIn K (.ref zga) "__init__"=some (some (.ref zya))) (kg:K.lookup zya=some ⟨zPe,zLe,.func (W.fnOf "__init__" "Grammar.__init__" (aX df) (aP df) (ak df) .none zQe zRe zSe zMe zLb zTe),zNe⟩) (kc:W.codeIn K zLb "Grammar.__init__"=true) (GE:W.keepIn K (.ref zya)=true) (kq:W.isFn K (.ref zya)=true) (xT:W.keepIn K (.ref zga)=true) (oz:W.findIn K (.ref zga) "rule"=some (some (.ref zIa))) (n6:K.lookup zIa=some ⟨zTf,zQf,.func (W.fnOf "rule" "Grammar.rule" (aX di) (aP di) (ak di) .none zUf zVf zWf zRf znd zXf),zSf⟩) (m_:W.codeIn K znd "Grammar.rule"=true) (EM:W.keepIn K (.ref zIa)=true) (om:W.isFn K (.ref zIa)=true) (i4:W.findIn K (.ref zga) "numbers_of"=some (some (.ref zua))) (i_:K.lookup zua=some ⟨zae,zFd,.func (W.fnOf "numbers_of" "Grammar.numbers_of" (aX bG) (aP bG) (ak bG) .none zbe zce zde zGd zwb zee),zKd⟩) (jd:W.codeIn K zwb "Grammar.numbers_of"=true) (EB:W.keepIn K (.ref zua)=true) (jm:W.isFn K (.ref zua)=true) (wW:W.nsIn K mainGlobals "TreeRows"=some (some (.ref yab))) (uT:W.plainGet K yab Str.empty=true) (vG:W.hasDictIn K yab=true) (uM:W.plainOver K yab=true) (uR:W.findIn K (.ref yab) "__setattr__"=some (some (.builtin "object.__setattr__"))) (vF:W.findIn K (.ref yab) "__class__"=some (some (.builtin "object.__class__"))) (vd:W.mroIn K yab (.type "object")=some true) (kA:W.findIn K (.ref yab) "grammar"=some none) (lL:W.findIn K (.ref yab) "steps"=some none) (ll:W.findIn K (.ref yab) "totals"=some none) (uZ:W.makesIn K yab=true) (vq:W.findIn K (.ref yab) "__init__"=some (some (.ref yaw))) (jK:K.lookup yaw=some ⟨ybC,ycc,.func (W.fnOf "__init__" "TreeRows.__init__" (aX eY) (aP eY) (ak eY) .none ybc ybb ybf ybk ya0 ybx),ybv⟩) (jY:W.codeIn K ya0 "TreeRows.__init__"=true) (jV:W.keepIn K (.ref yaw)=true) (jS:W.isFn K (.ref yaw)=true) (vR:W.keepIn K (.ref yab)=true) (ku:W.findIn K (.ref yab) "many_in"=some (some (.ref yaq))) (kE:K.lookup yaq=some ⟨ybQ,yb1,.func (W.fnOf "many_in" "TreeRows.many_in" (aX bW) (aP bW) (ak bW) .none ya9 ybR ybo ybB yaT yb2),ybH⟩) (ki:W.codeIn K yaT "TreeRows.many_in"=true) (fg:W.keepIn K (.ref yaq)=true) (kG:W.isFn K (.ref yaq)=true) (jM:W.findIn K (.ref yab) "steps_of"=some (some (.ref yas))) (jU:K.lookup yas=some ⟨ybY,yb6,.func (W.fnOf "steps_of" "TreeRows.steps_of" (aX b6) (aP b6) (ak b6) .none ybn yck ybr ybe yaW ybD),ybU⟩) (jT:W.codeIn K yaW "TreeRows.steps_of"=true) (eF:W.keepIn K (.ref yas)=true) (j1:W.isFn K (.ref yas)=true) (j2:W.findIn K (.ref yab) "reckoned"=some (some (.ref yau))) (jQ:K.lookup yau=some ⟨ycm,yb7,.func (W.fnOf "reckoned" "TreeRows.reckoned" (aX b5) (aP b5) (ak b5) .none ya8 yba ycd ybi ya4 ybt),ybS⟩) (jR:W.codeIn K ya4 "TreeRows.reckoned"=true) (eC:W.keepIn K (.ref yau)=true) (j4:W.isFn K (.ref yau)=true) (gn:W.findIn K (.ref yab) "many_together"=some (some (.ref yav))) (gF:K.lookup yav=some ⟨yb3,ybL,.func (W.fnOf "many_together" "TreeRows.many_together" (aX bp) (aP bp) (ak bp) .none yb0 yca ybz yce ya7 ycn),ybd⟩) (gB:W.codeIn K ya7 "TreeRows.many_together"=true) (c8:W.keepIn K (.ref yav)=true) (gD:W.isFn K (.ref yav)=true) (hU:W.findIn K (.ref zfa) "turned_whole"=some (some (.ref zla))) (gL:K.lookup zla=some ⟨zsc,zmc,.func (W.fnOf "turned_whole" "CellRule.turned_whole" (aX eX) (aP eX) (ak eX) .none ztc zuc zvc znc zZa zwc),zqc⟩) (hJ:W.codeIn K zZa "CellRule.turned_whole"=true) (EL:W.keepIn K (.ref zla)=true) (gR:W.isFn K (.ref zla)=true) (fO:W.findIn K (.ref zaa) "turned_whole"=some (some (.ref zia))) (fP:K.lookup zia=some ⟨zTb,zQb,.func (W.fnOf "turned_whole" "BesideRule.turned_whole" (aX dm) (aP dm) (ak dm) .none zUb zVb zWb zRb zPa zXb),zSb⟩) (fQ:W.codeIn K zPa "BesideRule.turned_whole"=true) (EA:W.keepIn K (.ref zia)=true) (fN:W.isFn K (.ref zia)=true) (gi:W.findIn K (.ref zba) "turned_whole"=some (some (.ref zka))) (gj:K.lookup zka=some ⟨zec,zbc,.func (W.fnOf "turned_whole" "AboveRule.turned_whole" (aX dG) (aP dG) (ak dG) .none zfc zgc zhc zcc zSa zic),zdc⟩) (gC:W.codeIn K zSa "AboveRule.turned_whole"=true) (EF:W.keepIn K (.ref zka)=true) (gg:W.isFn K (.ref zka)=true) (gM:W.findIn K (.ref zea) "turned_whole"=some (some (.ref zma))) (gY:K.lookup zma=some ⟨zxc,zoc,.func (W.fnOf "turned_whole" "TurnRule.turned_whole" (aX eZ) (aP eZ) (ak eZ) .none zyc zzc zAc zpc zab zBc),zrc⟩) (gQ:W.codeIn K zab "TurnRule.turned_whole"=true) (EQ:W.keepIn K (.ref zma)=true) (hG:W.isFn K (.ref zma)=true) (mL:W.findIn K (.ref zga) "rules"=some (some (.ref zDa))) (mK:K.lookup zDa=some ⟨zxf,zof,.func (W.fnOf "rules" "Grammar.rules" (aX cU) (aP cU) (ak cU) .none zyf zzf zAf zpf zHc zBf),zrf⟩) (mG:W.codeIn K zHc "Grammar.rules"=true) (EG:W.keepIn K (.ref zDa)=true) (mH:W.isFn K (.ref zDa)=true)
  (z0:W.nsIn K mainGlobals "len"=some none) (z1:W.nsIn K mainGlobals "range"=some none) (z2:W.nsIn K mainGlobals "list"=some none) (z3:W.nsIn K mainGlobals "tuple"=some none) (z4:W.nsIn K mainGlobals "isinstance"=some none) (z5:W.nsIn K mainGlobals "int"=some none) (z6:W.nsIn K mainGlobals "bool"=some none) (z7:W.nsIn K mainGlobals "str"=some none) (z8:W.nsIn K mainGlobals "reversed"=some none) (z9:W.nsIn K mainGlobals "all"=some none) (FY:W.nsIn K mainGlobals "enumerate"=some none) (Fv:W.nsIn K mainGlobals "zip"=some none) (F6:W.nsIn K mainGlobals "sorted"=some none) (Gu:W.nsIn K mainGlobals "set"=some none) (Gx:W.nsIn K mainGlobals "dict"=some none) (D5:W.nsIn K mainGlobals "min"=some none) (Gv:W.nsIn K mainGlobals "max"=some none) (FG:W.nsIn K mainGlobals "sum"=some none) (Gy:W.nsIn K mainGlobals "ValueError"=some none) :
  ∃fd:FuncData,(∀(s:HZ) (v:Value),BindsTo s fd ⟨[v],[]⟩ [("_law_script",v)])/\∀base:Heap,K.In base->base.Ns mainGlobals mg->aZ l.prog w K mg base bF 75 fa fd ["_law_script"] (qH K):=by
 obtain⟨an,oc,od,osl,kV,doc,pm,ann,cdv,ct,hl,hc,hk⟩:=GN;have e:=Fu.symm.trans (W.mg_of X G an);cases e;have FL:=bB hl hc hk;have nb:NB mg:=⟨W.mg_none_of X G z0,W.mg_none_of X G z1,W.mg_none_of X G z2,W.mg_none_of X G z3,W.mg_none_of X G z4,W.mg_none_of X G z5,W.mg_none_of X G z6,W.mg_none_of X G z7,W.mg_none_of X G z8,W.mg_none_of X G z9,W.mg_none_of X G FY,W.mg_none_of X G Fv,W.mg_none_of X G F6,W.mg_none_of X G Gu,W.mg_none_of X G Gx,W.mg_none_of X G D5,W.mg_none_of X G Gv,W.mg_none_of X G FG,W.mg_none_of X G Gy⟩;refine⟨W.fnOf "law" "law" (aX pK) (aP pK) (ak pK) .none kV doc pm ann cdv ct,λs v=>.of_eq rfl,λbase _ _=>?_⟩;have zEa:=W.mg_of X G BN;have xc_NoRule:xa K zda [.type "ValueError",.type "Exception",.type "BaseException",.type "object"] "ValueError.__new__":=⟨tf⟩;have zza:XR K zda:=⟨_,_,_,_,_,_,_,_,⟨tf⟩,PySem.F.excBase_ValueError,rfl,PySem.F.excBase_ValueError⟩;have xt_NoRule:W.XTy K zda:=⟨xQ,yb,xp,xo,xL,Bo,BA,_,_,_,zK⟩;have yaF:=W.mg_of X G BK;have xc_NoName:xa K yaa [.type "ValueError",.type "Exception",.type "BaseException",.type "object"] "ValueError.__new__":=⟨sI⟩;have yaO:XR K yaa:=⟨_,_,_,_,_,_,_,_,⟨sI⟩,PySem.F.excBase_ValueError,rfl,PySem.F.excBase_ValueError⟩;have xt_NoName:W.XTy K yaa:=⟨x6,yc,wU,xr,wT,Bo,BA,_,_,_,yO⟩;have zxa:=W.mg_of X G ve;have zrg:zb K zca [.type "ValueError",.type "Exception",.type "BaseException",.type "object"] "ValueError.__new__":=⟨qx⟩;have xt_NoGrammar:W.XTy K zca:=⟨qO,qQ,ss,qi,rf,Bo,BA,_,_,_,mB⟩;have ya5:W.clsIn K zca=some zGa:=by unfold W.clsIn;rw[mB]
 have xh_NoGrammar:W.hasDictIn K zca=true:=by unfold W.hasDictIn;rw[ya5];exact kP
 have yaZ:=bB (st:=jJ) qR ql qM;have ybq:W.XSt K zca "why":=⟨rP,⟨zGa,ya5,qV,kP,r_,rN⟩,rZ⟩;have ybZ:=yaZ.binds (ps:=["self","why"]) λ_ _ _ _ _ _=>bd2 λ_ _=>rfl
 have zqa:XI l.prog w K mg base 1 zca "why":=⟨_,_,_,_,_,_,_,_,zfb,_,_,zrg,PySem.F.excBase_ValueError,rfl,PySem.F.excBase_ValueError,qm,qt,AC yaZ ybq,ybZ⟩;have yaC:=W.mg_of X G x8;have yai:=W.mg_of X G Bk;have yaJ:=W.mg_of X G oW;have ybh:=W.mg_of X G DH;have zKc:=bB (st:=dh) mP mM EK;have zMf:=zKc.binds (ps:=["self","name","cost","part_names"]) λ_ _ _ _ _ _=>bd4 λ_ _ _ _=>rfl
 have ybm:yP K yae "__init__" zCa:=⟨CV,Cj,mJ,EK⟩;have zPb:=W.mg_of X G x9;have zib:ia K zfa:=⟨⟨Fy,EU,Gn,Fo⟩,Gm,Bo,BA,Gg⟩;have zHb:=bB (st:=dn) j6 jP GI;have zCe:=zHb.binds (ps:=["self","name","cost","sign"]) λ_ _ _ _ _ _=>bd4 λ_ _ _ _=>rfl
 have zCg:Mk K zfa zva:=⟨uH,vb,j5,vE⟩;have zsg:=W.mg_of X G sK;have zMa:ia K zaa:=⟨⟨F9,FA,FW,E8⟩,FD,Bo,BA,Gp⟩;have zqb:=bB (st:=cB) iI iG Gd;have ztd:=zqb.binds (ps:=["self","name","cost","one","other"]) λ_ _ _ _ _ _=>bd5 λ_ _ _ _ _=>rfl
 have zcg:Mk K zaa zoa:=⟨qI,qK,iL,rL⟩;have zDg:=W.mg_of X G vk;have zVa:ia K zba:=⟨⟨E4,GU,FX,FQ⟩,F0,Bo,BA,GQ⟩;have zAb:=bB (st:=cP) i' jp E5;have zge:=zAb.binds (ps:=["self","name","cost","one","other"]) λ_ _ _ _ _ _=>bd5 λ_ _ _ _ _=>rfl
 have ztg:Mk K zba zra:=⟨sN,tj,iM,tO⟩;have zSg:=W.mg_of X G ym;have zjb:ia K zea:=⟨⟨E_,Gc,Fb,Gw⟩,E3,Bo,BA,Fl⟩;have zIb:=bB (st:=dj) jL jN Fj;have zDe:=zIb.binds (ps:=["self","name","cost","part","turning"]) λ_ _ _ _ _ _=>bd5 λ_ _ _ _ _=>rfl
 have zEg:Mk K zea zwa:=⟨vg,uz,jO,uC⟩
 let R:RC:=⟨yae,zfa,zaa,zba,zea⟩
 have rk:lD K R:=⟨zib,zMa,zVa,zjb,⟨Gk,E6,Fc,FO⟩,⟨Gq,Fw,Fd,GM,GP⟩,⟨Fx,EX,F7,E7,EW⟩,⟨FH,Fk,GW,FZ,EV⟩,GT,FF,GR,GF,Ez,EE,Ey,Ew⟩;have yaN:=W.mg_of X G tU;have yaG:=W.mg_of X G tI;have yaE:=W.mg_of X G uc;have yam:=W.mg_of X G DN;have rk4:BT K R:=⟨λi j hi hj=>by rcases im hi with rfl | rfl | rfl | rfl<;>rcases im hj with rfl | rfl | rfl | rfl;exact Ez;exact Gs;exact FJ;exact GA;exact Fm;exact EE;exact GJ;exact FC;exact FR;exact FN;exact Ey;exact Fq;exact Fr;exact GL;exact Fp;exact Ew⟩;have zWa:=bB (st:=cT) se rE DL;have zBb:=zWa.binds (ps:=["self"]) λ_ _ _ _ _ _=>bd1 λ_=>rfl
 have zdf:dC K zfa "parts" zja:=⟨lH,eN,DL⟩;have zCb:=bB (st:=dl) jj jr EC;have zhe:=zCb.binds (ps:=["self","rows","columns","cost"]) λ_ _ _ _ _ _=>bd4 λ_ _ _ _=>rfl
 have zud:dC K zfa "part_rows" zsa:=⟨jl,iQ,EC⟩;have zEe:dC K zaa "parts" zja:=⟨ke,eN,DL⟩;have zkb:=bB (st:=cz) ib iu EN;have zVc:=zkb.binds (ps:=["self","rows","columns","cost"]) λ_ _ _ _ _ _=>bd4 λ_ _ _ _=>rfl
 have zDc:dC K zaa "part_rows" zna:=⟨hZ,iq,EN⟩;have zXe:dC K zba "parts" zja:=⟨ld,eN,DL⟩;have zrb:=bB (st:=cS) iC iE EO;have zvd:=zrb.binds (ps:=["self","rows","columns","cost"]) λ_ _ _ _ _ _=>bd4 λ_ _ _ _=>rfl
 have zWc:dC K zba "part_rows" zpa:=⟨iH,iK,EO⟩;have zef:dC K zea "parts" zja:=⟨lM,eN,DL⟩;have zDb:=bB (st:=dr) i7 iP EJ;have zie:=zDb.binds (ps:=["self","rows","columns","cost"]) λ_ _ _ _ _ _=>bd4 λ_ _ _ _=>rfl
 have zwd:dC K zea "part_rows" zta:=⟨jn,iS,EJ⟩;have zch:=W.mg_of X G AA;have zLa:ia K zga:=⟨⟨Gz,Fe,E9,FE⟩,FS,Bo,BA,Fg⟩;have zMb:=bB (st:=df) kg kc GE;have zYe:=zMb.binds (ps:=["self","signs","start","rules"]) λ_ _ _ _ _ _=>bd4 λ_ _ _ _=>rfl
 have zTg:Mk K zga zya:=⟨wX,xA,kq,xT⟩;have gk:Ee K zga:=⟨zLa,Fh,Gh,Go,F5⟩;have zxd:=bB (st:=di) n6 m_ EM;have zZf:=zxd.binds (ps:=["self","k"]) λ_ _ _ _ _ _=>bd2 λ_ _=>rfl
 have zNf:dC K zga "rule" zIa:=⟨oz,om,EM⟩;have zEb:=bB (st:=bG) i_ jd EB;have zje:=zEb.binds (ps:=["self","name"]) λ_ _ _ _ _ _=>bd2 λ_ _=>rfl
 have zyd:dC K zga "numbers_of" zua:=⟨i4,jm,EB⟩;have ybj:=W.mg_of X G wW;have ya6:ia K yab:=⟨⟨uT,vG,uM,uR⟩,vF,Bo,BA,vd⟩;have yaS:=bB (st:=eY) jK jY jV;have ybw:=yaS.binds (ps:=["self","grammar"]) λ_ _ _ _ _ _=>bd2 λ_ _=>rfl
 have ybM:Mk K yab yaw:=⟨uZ,vq,jS,vR⟩;have nt:aq K yab "grammar"/\aq K yab "steps"/\aq K yab "totals":=⟨kA,lL,ll⟩;have yaU:=bB (st:=bW) kE ki fg;have yci:=yaU.binds (ps:=["self","row"]) λ_ _ _ _ _ _=>bd2 λ_ _=>rfl
 have ybT:dC K yab "many_in" yaq:=⟨ku,kG,fg⟩;have yaY:=bB (st:=b6) jU jT eF;have ybl:=yaY.binds (ps:=["self","row"]) λ_ _ _ _ _ _=>bd2 λ_ _=>rfl
 have ycg:dC K yab "steps_of" yas:=⟨jM,j1,eF⟩;have yaX:=bB (st:=b5) jQ jR eC;have ybg:=yaX.binds (ps:=["self","row"]) λ_ _ _ _ _ _=>bd2 λ_ _=>rfl
 have ybI:dC K yab "reckoned" yau:=⟨j2,j4,eC⟩;have ya2:=bB (st:=bp) gF gB c8;have ybG:=ya2.binds (ps:=["self","rows"]) λ_ _ _ _ _ _=>bd2 λ_ _=>rfl
 have ybK:dC K yab "many_together" yav:=⟨gn,gD,c8⟩;have zdb:=bB (st:=eX) gL hJ EL;have zEc:=zdb.binds (ps:=["self","t"]) λ_ _ _ _ _ _=>bd2 λ_ _=>rfl
 have zjc:dC K zfa "turned_whole" zla:=⟨hU,gR,EL⟩;have zRa:=bB (st:=dm) fP fQ EA;have zYb:=zRa.binds (ps:=["self","t"]) λ_ _ _ _ _ _=>bd2 λ_ _=>rfl
 have zOb:dC K zaa "turned_whole" zia:=⟨fO,fN,EA⟩;have zXa:=bB (st:=dG) gj gC EF;have zkc:=zXa.binds (ps:=["self","t"]) λ_ _ _ _ _ _=>bd2 λ_ _=>rfl
 have zZb:dC K zba "turned_whole" zka:=⟨gi,gg,EF⟩;have zeb:=bB (st:=eZ) gY gQ EQ;have zFc:=zeb.binds (ps:=["self","t"]) λ_ _ _ _ _ _=>bd2 λ_ _=>rfl
 have zlc:dC K zea "turned_whole" zma:=⟨gM,hG,EQ⟩;have zLc:=bB (st:=cU) mK mG EG;have zOf:=zLc.binds (ps:=["self"]) λ_ _ _ _ _ _=>bd1 λ_=>rfl
 have zlf:dC K zga "rules" zDa:=⟨mL,mH,EG⟩;have yaf:=a1.cal (P:=l.prog) (w:=w) (base:=base) X G (λ_ F m k b=>u6 F nb) (λ_ _ _ _ _ _=>bd2 λ_ _=>rfl);have yaj:=a2.cal (P:=l.prog) (w:=w) (base:=base) X G (λ_ F m k b=>vI F nb yaJ yaC yaf) (λ_ _ _ _ _ _=>bd1 λ_=>rfl);have zha:xJ l.prog w K mg base (b7 l.prog w) 3 "Rule" "__init__" ["self","name","cost","part_names"] (cQ K zda):=⟨_,_,_,sv zKc nb zEa zza yaj,ybh,ybm,zMf⟩;have zNa:iF l.prog w K mg base (b7 l.prog w) 4 "CellRule" zfa ["self","name","cost","sign"] (eQ K zda):=⟨_,_,qh zHb nb yai zEa zza yaf zha,zPb,zCg,zCe⟩;have zAa:iF l.prog w K mg base (b7 l.prog w) 4 "BesideRule" zaa ["self","name","cost","one","other"] (bU K zda):=⟨_,_,oA zqb nb zha,zsg,zcg,ztd⟩;have zHa:iF l.prog w K mg base (b7 l.prog w) 4 "AboveRule" zba ["self","name","cost","one","other"] (bU K zda):=⟨_,_,o7 zAb nb zha,zDg,ztg,zge⟩;have zOa:iF l.prog w K mg base (b7 l.prog w) 4 "TurnRule" zea ["self","name","cost","part","turning"] (eS K zda):=⟨_,_,rQ zIb nb zEa zza zha,zSg,zEg,zDe⟩;have yaI:o8 l.prog w K mg base bF 1 "parts" (m5 K R):=zZ ⟨_,_,_,dP zWa nb,zib.cl,zdf,zBb⟩ ⟨_,_,_,dP zWa nb,zMa.cl,zEe,zBb⟩ ⟨_,_,_,dP zWa nb,zVa.cl,zXe,zBb⟩ ⟨_,_,_,dP zWa nb,zjb.cl,zef,zBb⟩;have yaD:=a3.cal (P:=l.prog) (w:=w) (base:=base) X G (λ_ F m k b=>rT F nb yaN yai yaf) (λ_ _ _ _ _ _=>bd1 λ_=>rfl);have yaH:=a4.cal (P:=l.prog) (w:=w) (base:=base) X G (λ_ F m k b=>lY F nb rk rk4 yaG zPb zxa zqa yaD yaj) (λ_ _ _ _ _ _=>bd3 λ_ _ _=>rfl);have yaB:=a5.cal (P:=l.prog) (w:=w) (base:=base) X G (λ_ F m k b=>kh F nb rk yaI) (λ_ _ _ _ _ _=>bd2 λ_ _=>rfl);have zYa:iF l.prog w K mg base (b7 l.prog w) 4 "Grammar" zga ["self","signs","start","rules"] (eV K R zca):=⟨_,_,qG zMb nb yaE zxa zqa yaH yaB,zch,zTg,zYe⟩;have yal:eM l.prog w K mg base bF 1 zga "rule" ["self","k"] (eG R zga):=⟨_,_,rS zxd nb zLa.cl gk.na,zLa.cl,zNf,zZf⟩;have yak:eM l.prog w K mg base (b7 l.prog w) 1 zga "numbers_of" ["self","name"] (ci R zga yaa):=⟨_,_,kn zEb nb zLa.cl gk.na yaF yaO,zLa.cl,zyd,zje⟩;have yaP:eM l.prog w K mg base bF 1 zga "rules" ["self"] (gl R zga):=⟨_,_,pi zLc nb zLa.cl gk.na,zLa.cl,zlf,zOf⟩;have yad:=a6.cal (P:=l.prog) (w:=w) (base:=base) X G (λ_ F m k b=>xc F) (λ_ _ _ _ _ _=>bd1 λ_=>rfl);have yao:=a7.cal (P:=l.prog) (w:=w) (base:=base) X G (λ_ F m k b=>nB F nb yad) (λ_ _ _ _ _ _=>bd3 λ_ _ _=>rfl);have yan:o8 l.prog w K mg base bF 3 "part_rows" (kZ R):=zZ ⟨_,_,_,(rh zCb nb zib.cl rk.a0.2.1).mono nofun,zib.cl,zud,zhe⟩ ⟨_,_,_,nM zkb nb zMa.cl ⟨rk.a1.2.1,rk.a1.2.2.2.1,rk.a1.2.2.2.2⟩ yao,zMa.cl,zDc,zVc⟩ ⟨_,_,_,oP zrb nb zVa.cl ⟨rk.a2.2.1,rk.a2.2.2.2.1,rk.a2.2.2.2.2⟩ yao,zVa.cl,zWc,zvd⟩ ⟨_,_,_,(qp zDb nb zjb.cl ⟨rk.a3.2.1,rk.a3.2.2.2.1,rk.a3.2.2.2.2⟩).mono nofun,zjb.cl,zwd,zie⟩;have yaA:iF l.prog w K mg base bF 1 "TreeRows" yab ["self","grammar"] (km K):=⟨_,_,vL yaS nb,ybj,ybM,ybw⟩;have yap:=ml (P:=l.prog) (w:=w) (base:=base) (R:=R) yaU yaY yaX ya2 nb nb.sum yam ya6 nt ybT ycg ybI ybK yci ybl ybg ybG yad yak yal yan 17;have yah:=a8.cal (P:=l.prog) (w:=w) (base:=base) X G (λ_ F m k b=>ny F nb ya6 nt yaA yap) (λ_ _ _ _ _ _=>bd5 λ_ _ _ _ _=>rfl);have yaz:=a9.cal (P:=l.prog) (w:=w) (base:=base) X G (λ_ F m k b=>Am F) (λ_ _ _ _ _ _=>bd2 λ_ _=>rfl);have yaL:=FU.cal (P:=l.prog) (w:=w) (base:=base) X G (λ_ F m k b=>Bs F) (λ_ _ _ _ _ _=>bd1 λ_=>rfl);have zBa:=FT.cal (P:=l.prog) (w:=w) (base:=base) X G (λ_ F m k b=>nc F nb rk zAa zHa) (λ_ _ _ _ _ _=>bd3 λ_ _ _=>rfl);have zsb:o8 l.prog w K mg base bF 7 "turned_whole" (B3 R):=zZ ⟨_,_,_,(vH zdb rk zNa).mono nofun,zib.cl,zjc,zEc⟩ ⟨_,_,_,qo zRa zBa,zMa.cl,zOb,zYb⟩ ⟨_,_,_,ul zXa zBa,zVa.cl,zZb,zkc⟩ ⟨_,_,_,(uQ zeb rk yaz yaL zOa).mono nofun,zjb.cl,zlc,zFc⟩;have zlb:=Ga.cal (P:=l.prog) (w:=w) (base:=base) X G (λ_ F m k b=>lh F nb gk zsb yaP zYa) (λ_ _ _ _ _ _=>bd2 λ_ _=>rfl);have zFa:=F'.cal (P:=l.prog) (w:=w) (base:=base) X G (λ_ F m k b=>x5 F nb) (λ_ _ _ _ _ _=>bd2 λ_ _=>rfl);have zGe:=GC.cal (P:=l.prog) (w:=w) (base:=base) X G (λ_ F m k b=>uY F nb zFa) (λ_ _ _ _ _ _=>bd3 λ_ _ _=>rfl);have zHe:=GV.cal (P:=l.prog) (w:=w) (base:=base) X G (λ_ F m k b=>vS F nb) (λ_ _ _ _ _ _=>bd1 λ_=>rfl);have zIe:=EZ.cal (P:=l.prog) (w:=w) (base:=base) X G (λ_ F m k b=>va F nb) (λ_ _ _ _ _ _=>bd2 λ_ _=>rfl);have zNb:=EY.cal (P:=l.prog) (w:=w) (base:=base) X G (λ_ F m k b=>nJ F nb) (λ_ _ _ _ _ _=>bd1 λ_=>rfl);have zJe:=GK.cal (P:=l.prog) (w:=w) (base:=base) X G (λ_ F m k b=>u8 F nb zNb) (λ_ _ _ _ _ _=>bd1 λ_=>rfl);have zgf:=GG.cal (P:=l.prog) (w:=w) (base:=base) X G (λ_ F m k b=>xI F nb rk zNa zAa zHa zOa) (λ_ _ _ _ _ _=>bd1 λ_=>rfl);have zKb:=F_.cal (P:=l.prog) (w:=w) (base:=base) X G (λ_ F m k b=>qz F nb gk zgf zYa) (λ_ _ _ _ _ _=>bd3 λ_ _ _=>rfl);have zJa:=GD.cal (P:=l.prog) (w:=w) (base:=base) X G (λ_ F m k b=>uh F nb) (λ_ _ _ _ _ _=>bd2 λ_ _=>rfl);have zKa:=Fi.cal (P:=l.prog) (w:=w) (base:=base) X G (λ_ F m k b=>t_ F nb) (λ_ _ _ _ _ _=>bd4 λ_ _ _ _=>rfl);have zFe:=Fz.cal (P:=l.prog) (w:=w) (base:=base) X G (λ_ F m k b=>uV F nb) (λ_ _ _ _ _ _=>bd3 λ_ _ _=>rfl);have zmb:=GO.cal (P:=l.prog) (w:=w) (base:=base) X G (λ_ F m k b=>zi F nb nb.sum zFe) (λ_ _ _ _ _ _=>bd6 λ_ _ _ _ _ _=>rfl);have zac:=GH.cal (P:=l.prog) (w:=w) (base:=base) X G (λ_ F m k b=>pf F nb) (λ_ _ _ _ _ _=>bd4 λ_ _ _ _=>rfl);have zhf:=ET.cal (P:=l.prog) (w:=w) (base:=base) X G (λ_ F m k b=>xB F nb zac zmb zJa zKa) (λ_ _ _ _ _ _=>bd4 λ_ _ _ _=>rfl);have zKe:=Gb.cal (P:=l.prog) (w:=w) (base:=base) X G (λ_ F m k b=>uD F nb zmb zhf) (λ_ _ _ _ _ _=>bd2 λ_ _=>rfl);have zJb:=Gf.cal (P:=l.prog) (w:=w) (base:=base) X G (λ_ F m k b=>pY F nb zJa zKa m k b 16 nofun) (λ_ _ _ _ _ _=>bd3 λ_ _ _=>rfl);have zPf:=Ff.cal (P:=l.prog) (w:=w) (base:=base) X G (λ_ F m k b=>Ac F nb nb.sum yah) (λ_ _ _ _ _ _=>bd5 λ_ _ _ _ _=>rfl)
 exact Ce FL nb zFa zGe zHe zIe zJe zKe zKb zlb yah zJb zPf
theorem walk{l:W.OpenLaw}{q:Ig}{loose:Ih}{XP:(Str->Option Value)->Heap->Prop}{YP:World->Heap->Prop}{d:DefRec}{K:Params->W.Frag}(hn:l.most=some 63)(hdf:d.params.defaults=[])
  (hY:∀(w:Ij) (h:Heap),YP w h->(K w.params).In h)
  (F:∀(w:Ij) (mg:Ic) (fa:Addr) (h:Heap),(K w.params).In h->h.Ns mainGlobals mg->mg d.name=some (.ref fa) ->
   ∃fd:FuncData,(∀(s:HZ) (u:Value),BindsTo s fd ⟨[u],[]⟩ [("_law_script",u)])/\∀base:Heap,(K w.params).In base->base.Ns mainGlobals mg->aZ l.prog w (K w.params) mg base bF 75 fa fd ["_law_script"] (qH (K w.params))) :
  W.WalkO q loose XP YP l.row.toRowW d [] (λf vs=>PySem.call f vs):=
 L2.walk_of (n:=63) (k:=75) (x:="_law_script") (CX:=λ_=>bF) (sp:=λw=>qH (K w.params)) hn nofun hdf ⟨rfl,nofun,nofun⟩ hY F (λ_ _ a ns hl _ hS=>⟨a,ns,rfl,hS,λ_=>rfl⟩) λ_ _ _ _ _ z=>z
end Q37
open PySem PySem.W PyProof.Rows
local macro_rules | `(tactic| walk_at "kk")=>`(tactic| first | (refine' Q37.fk_mk ?p ?q ?r ?s;(case p=>k_is);(case q=>k_is);(case r=>k_is);(case s=>k_is)) | (refine' Q37.mk_mk ?p ?q ?r ?s;(case p=>k_is);(case q=>k_is);(case r=>k_is);(case s=>k_is)) | k_is | kernel_rfl | rfl | decide +kernel)
set_option maxRecDepth 100000 in
set_option maxHeartbeats 0 in
theorem PySem.Challenge.cw_quiltlaw_k37_whole_counts_turned_holds : PySem.Challenge.rw_quiltlaw_k37_whole_counts_turned.Holds := by
 w_on;o_law;k_head;(case hw=>w_witness2)
 k_fill
 refine Q37.walk (l:=PySem.Challenge.rw_quiltlaw_k37_whole_counts_turned) rfl rfl (λw h Y=>PySem.W.kIn_of Y) ?F
 case F=>
  intro w mg fa h KX G hmg
  refine' Q37.all_mk KX G hmg ?_ ?_ ?_ ?_ ?_ ?_ ?_ ?_ ?_ ?_ ?_ ?_ ?_ ?_ ?_ ?_ ?_ ?_ ?_ ?_ ?_ ?_ ?_ ?_ ?_ ?_ ?_ ?_ ?_ ?_ ?_ ?_ ?_ ?_ ?_ ?_ ?_ ?_ ?_ ?_ ?_ ?_ ?_ ?_ ?_ ?_ ?_ ?_ ?_ ?_ ?_ ?_ ?_ ?_ ?_ ?_ ?_ ?_ ?_ ?_ ?_ ?_ ?_ ?_ ?_ ?_ ?_ ?_ ?_ ?_ ?_ ?_ ?_ ?_ ?_ ?_ ?_ ?_ ?_ ?_ ?_ ?_ ?_ ?_ ?_ ?_ ?_ ?_ ?_ ?_ ?_ ?_ ?_ ?_ ?_ ?_ ?_ ?_ ?_ ?_ ?_ ?_ ?_ ?_ ?_ ?_ ?_ ?_ ?_ ?_ ?_ ?_ ?_ ?_ ?_ ?_ ?_ ?_ ?_ ?_ ?_ ?_ ?_ ?_ ?_ ?_ ?_ ?_ ?_ ?_ ?_ ?_ ?_ ?_ ?_ ?_ ?_ ?_ ?_ ?_ ?_ ?_ ?_ ?_ ?_ ?_ ?_ ?_ ?_ ?_ ?_ ?_ ?_ ?_ ?_ ?_ ?_ ?_ ?_ ?_ ?_ ?_ ?_ ?_ ?_ ?_ ?_ ?_ ?_ ?_ ?_ ?_ ?_ ?_ ?_ ?_ ?_ ?_ ?_ ?_ ?_ ?_ ?_ ?_ ?_ ?_ ?_ ?_ ?_ ?_ ?_ ?_ ?_ ?_ ?_ ?_ ?_ ?_ ?_ ?_ ?_ ?_ ?_ ?_ ?_ ?_ ?_ ?_ ?_ ?_ ?_ ?_ ?_ ?_ ?_ ?_ ?_ ?_ ?_ ?_ ?_ ?_ ?_ ?_ ?_ ?_ ?_ ?_ ?_ ?_ ?_ ?_ ?_ ?_ ?_ ?_ ?_ ?_ ?_ ?_ ?_ ?_ ?_ ?_ ?_ ?_ ?_ ?_ ?_ ?_ ?_ ?_ ?_ ?_ ?_ ?_ ?_ ?_ ?_ ?_ ?_ ?_ ?_ ?_ ?_ ?_ ?_ ?_ ?_ ?_ ?_ ?_ ?_ ?_ ?_ ?_ ?_ ?_ ?_ ?_ ?_ ?_ ?_ ?_ ?_ ?_ ?_ ?_ ?_ ?_ ?_ ?_ ?_ ?_ ?_ ?_ ?_ ?_ ?_ ?_ ?_ ?_ ?_ ?_ ?_ ?_ ?_ ?_ ?_ ?_ ?_ ?_ ?_ ?_
  all_goals (try walk_at "kk")
