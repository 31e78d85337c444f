import PyProof.Rows.All
import Wide.All
import OpenK.AllK
import Wide.FinOn
import Lean
import PyProof.EqAt
import PyProof.EqKinds
import PyProof.TupleCall
import PyProof.CollectIter
import PyProof.JoinWalk
import PyProof.StrOps
import PyProof.ListOps
import PyProof.StrLawsJoin
import KE.KRevIter
import PyProof.StrLawsFirst
import PyProof.Rows.StrNews2
import PyProof.StrLawsTight
import PyProof.StrLawsChain
import KE.KIntText
import KE.IntTextLaws
import PyProof.ListStr
import KE.KDictLaws
import KE.KDictList
import PyProof.Rows.SetFrom
import PyProof.FitsReplace
import KE.KEqDict
import PyProof.Rows.SumAny
import PyProof.Rows.CallKwBuiltin
import PyProof.EnumMake
import PyProof.TupleIter
import PyProof.Rows.TupIter
import PyProof.FactsAll.range_2
import PyProof.AutoSeq1
import PySem.Challenge.RW_quiltlaw_k16_no_tree
namespace PySem.W.Fast
def tw9625762182371028930:=Nat
def tw10617012295877061627:=Nat
def tw16598940386286696915:=Nat
def tw13819251876019184407:=Nat
def tw12094349736864170697:=Nat
def tw1988329788286320636:=Nat
def tw16592119581611014516:=Nat
def tw2812589346278400734:=Nat
def tw15730634960641271776:=Nat
def tw15357965552248799127:=Nat
def tw13628275280854330824:=Nat
def tw4869861904976299829:=Nat
def tw16623251249207605438:=Nat
def tw5938614731335812664:=Nat
def tw2162784663765169186:=Nat
def tw2075192812439480930:=Nat
def tw1458153716063175407:=Nat
def tw17675323055326086770:=Nat
def tw12559494128004812964:=Nat
def tw6013414303122192441:=Nat
def tw9386212201405604023:=Nat
def tw6358902883232736460:=Nat
def tw13700861717765670114:=Nat
def tw5236533242443658843:=Nat
def tw7180821029914183851:=Nat
def tw612012604281738715:=Nat
def tw3770403266365231622:=Nat
def tw15965562349909630533:=Nat
def tw4687671272728762922:=Nat
def tw2308076057479661663:=Nat
def tw18420598814303802549:=Nat
def tw384046003790824125:=Nat
def tw8937159761182683401:=Nat
def tw4604512858202732785:=Nat
def tw1565479941430103591:=Nat
def tw622685790646308103:=Nat
def tw10801014039925880226:=Nat
def tw8094468986228371944:=Nat
def tw7901277682767621821:=Nat
def tw7195008809043960022:=Nat
def tw2927000623563629659:=Nat
def tw9394130399595808843:=Nat
def tw11368559736333187298:=Nat
def tw9911270207400821391:=Nat
def tw2901607149433460723:=Nat
def tw16551811992932216958:=Nat
def tw11191859094586537637:=Nat
def tw439202744223233028:=Nat
def tw5922663045272667840:=Nat
def tw16528817928349417948:=Nat
def tw11938286620917404489:=Nat
def tw15386926576851180664:=Nat
def tw14659995474139323971:=Nat
def tw9158190154450907105:=Nat
def tw5172044262304422236:=Nat
def tw18104204969855758899:=Nat
def tw3439941026042638869:=Nat
def tw17784765410497887169:=Nat
def tw7208752847576044044:=Nat
def tw11436821382725036487:=Nat
def tw18209867981397821707:=Nat
def tw17413793466062178597:=Nat
def tw4473675554142015694:=Nat
def tw9991501198674581303:=Nat
def tw10146529171947847002:=Nat
def tw11132426501449304975:=Nat
def tw14354205429386369002:=Nat
def tw9202493021234600302:=Nat
def tw17953854941543577175:=Nat
def tw4706535473055081747:=Nat
def tw9222849350939160938:=Nat
def tw4285746463748131264:=Nat
def tw10942228711739856146:=Nat
def tw8599921392585229539:=Nat
def tw16542402217835524154:=Nat
def tw17267070263467803533:=Nat
def tw9206117909317613845:=Nat
def tw12285743780827501986:=Nat
def tw15109153749835002635:=Nat
def tw17913870789651811948:=Nat
def tw4317656534312170705:=Nat
def tw9572311455477637612:=Nat
def tw720195444944373292:=Nat
def tw14999609847635826825:=Nat
def tw11476948405001867955:=Nat
def tw5661231834665829023:=Nat
def tw15827969832276640289:=Nat
def tw15351217073947530884:=Nat
def tw9610781332653098970:=Nat
def tw5446730534942441887:=Nat
def tw11612763880408560364:=Nat
def tw7155970306723284996:=Nat
def tw16905199163071691573:=Nat
def tw5287096227063650663:=Nat
def tw16878810335557907571:=Nat
def tw10861337435274951233:=Nat
def tw13594373875089178266:=Nat
def tw10604753250418363261:=Nat
def tw6875684684680017701:=Nat
def tw12664720970610437617:=Nat
def tw17212811413276611406:=Nat
def tw12550985517389502298:=Nat
def tw7688104743339287748:=Nat
def tw13583187433736803932:=Nat
def tw15719893947281823626:=Nat
def tw15354846490761420459:=Nat
def tw12776336590231780377:=Nat
def tw9097223718197681082:=Nat
def tw16493719003191331276:=Nat
def tw1479061187728682006:=Nat
def tw18099545374365184642:=Nat
def tw1876279811563269718:=Nat
def tw8407371878143934060:=Nat
def tw13559535562619519572:=Nat
def tw13045497593547926080:=Nat
def tw3785074472692717673:=Nat
def tw7852698419231276965:=Nat
def tw14841330609101962698:=Nat
def tw7244654921439272719:=Nat
def tw15153436367480583755:=Nat
def tw15213441938200989384:=Nat
def tw11288854889348388798:=Nat
def tw9974776387620317406:=Nat
def tw15893220759394157544:=Nat
def tw14724709146756752745:=Nat
def tw4693408061967433933:=Nat
def tw9862920051730046423:=Nat
def tw13855266880939780711:=Nat
def tw16008398103258441979:=Nat
def tw17960511667118471754:=Nat
def tw4020828273558092516:=Nat
def tw13388532167883936465:=Nat
def tw8331176521011502363:=Nat
def tw7464592770745832177:=Nat
def tw13650931555949237322:=Nat
def tw4477027119196537588:=Nat
def tw17791051134520213534:=Nat
def tw14530627019260718537:=Nat
def tw14659465110071484647:=Nat
def tw16726377113756210414:=Nat
def tw15802600032002892534:=Nat
def tw596079774501411025:=Nat
def tw7597500291464455600:=Nat
def tw11557542128230619255:=Nat
def tw2122392549377034730:=Nat
def tw8068602860985946192:=Nat
def tw9191199577502423130:=Nat
def tw9602318101374667171:=Nat
def tw11857389884433466388:=Nat
def tw5564865176826854801:=Nat
def tw14465707352780364438:=Nat
def tw5670392035804836318:=Nat
def tw4351797261121689446:=Nat
def tw1913695438201970649:=Nat
def tw15365674791282191107:=Nat
def tw1703363489826414306:=Nat
def tw7325143512549947474:=Nat
def tw14280092906204631762:=Nat
def tw969015511670370186:=Nat
def tw8049036188109135519:=Nat
def tw12898381266151364970:=Nat
def tw523535786500902274:=Nat
def tw6187932569896212443:=Nat
def tw11445346215497588462:=Nat
def tw13123782665125668191:=Nat
def tw16284656939459838621:=Nat
def tw8853760930113071631:=Nat
def tw7059858057067873379:=Nat
def tw2520231272553005945:=Nat
def tw9874586905215661447:=Nat
def tw6209485044722495557:=Nat
def tw16906591121361921926:=Nat
def tw757722578106812276:=Nat
def tw17964520915813520224:=Nat
def tw16834935364072413416:=Nat
def tw17649120012070006633:=Nat
def tw11204309855984860098:=Nat
def tw17249363226930417628:=Nat
def tw13069222143761816387:=Nat
def tw14590803253515639399:=Nat
def tw7750387764585761557:=Nat
def tw18371241263492310204:=Nat
def tw1506703526798081311:=Nat
def tw3108483065807267610:=Nat
def tw12481132708527563956:=Nat
def tw6483733850618247301:=Nat
def tw10718130733737481928:=Nat
def tw292588764874986037:=Nat
def tw9047507177508884740:=Nat
def tw4375843458659569791:=Nat
def tw11080289899477604939:=Nat
def tw16361897881076863423:=Nat
def tw10815387971796004566:=Nat
def tw17592050483669976075:=Nat
def tw9140600949647065105:=Nat
def tw11193998792764525711:=Nat
def tw9154416575563153013:=Nat
def tw3505068024816553789:=Nat
def tw11236246428259835570:=Nat
def tw16380633202136546370:=Nat
def tw17288250766437174714:=Nat
def tw1764631029072828721:=Nat
def tw110589727455316575:=Nat
def tw8140925074120236429:=Nat
def tw11171984177415767584:=Nat
def tw7330693300695807675:=Nat
def tw14993262235573751151:=Nat
def tw2260478318336665767:=Nat
def tw16542973328627015755:=Nat
def tw13918145133118638409:=Nat
def tw17810314608643493273:=Nat
def tw16707636547971790306:=Nat
def tw18323304220510780908:=Nat
def tw15839239216493231773:=Nat
def tw10260261740508198976:=Nat
def tw16032614521344742393:=Nat
def tw16771296049929656604:=Nat
def tw529652261592598362:=Nat
def tw9866684384289855292:=Nat
def tw13927378854654196831:=Nat
def tw16110329061892651428:=Nat
def tw8562437236942936080:=Nat
def tw17519478062408381309:=Nat
def tw14773376098104833024:=Nat
def tw2536548998259943633:=Nat
def tw8462100678644917277:=Nat
def tw17813482685971394471:=Nat
def tw8223653051738300252:=Nat
def tw13848429925380271412:=Nat
def tw15599436498243284891:=Nat
def tw14438212652793723977:=Nat
def tw17493119604791161770:=Nat
def tw8551651358527717772:=Nat
def tw3936833100703927573:=Nat
def tw16043274249555056396:=Nat
def tw6399036214807873536:=Nat
def tw16558230366700947787:=Nat
def tw3078535684520520736:=Nat
def tw10501367541930162704:=Nat
def tw7654362524112589122:=Nat
def tw6802550339480971540:=Nat
def tw1457824411277123057:=Nat
def tw6979210298875462636:=Nat
def tw7549867285814867975:=Nat
def tw4880971093884596187:=Nat
def tw17231037465305869736:=Nat
def tw16328978908662661007:=Nat
def tw18058546949768569974:=Nat
def tw17174786759195130854:=Nat
def tw14571098204854469405:=Nat
def tw16191574553142319038:=Nat
def tw10123121450442350193:=Nat
def tw12879319630711049035:=Nat
def tw14710341083023349860:=Nat
def tw8445340424506137519:=Nat
def tw687518614207145915:=Nat
def tw14141609567722886674:=Nat
def tw12795545038522356637:=Nat
def tw14123416890707810395:=Nat
def tw8862692817115621354:=Nat
def tw17346502678779472280:=Nat
def tw9052716471707979738:=Nat
def tw5669569365101712032:=Nat
def tw12114027784428900655:=Nat
def tw18115018246492989492:=Nat
def tw9184112272306203248:=Nat
def tw3657984455693602806:=Nat
def tw1525258640570555663:=Nat
def tw519925518984934583:=Nat
def tw15220333057948075348:=Nat
def tw15922927461096038544:=Nat
def tw1171818611879950839:=Nat
def tw18012287875865686571:=Nat
def tw6635395362218252683:=Nat
def tw13070078260249377596:=Nat
def tw11498513199203876248:=Nat
def tw2361029943566144132:=Nat
def tw15688879538385904663:=Nat
def tw15182237129462231779:=Nat
def tw1863464159014762194:=Nat
def tw15106782847250807384:=Nat
def tw17519450406255318654:=Nat
def tw7751217223849078789:=Nat
def tw7530882143899280698:=Nat
def tw13139130008139037886:=Nat
def tw3059958832751064428:=Nat
def tw15151777777913904257:=Nat
def tw6658752245686016173:=Nat
def tw18203743438358943013:=Nat
def tw270579407687395067:=Nat
def tw3988239947879276852:=Nat
def tw2184355493706612313:=Nat
def tw16047074458969997755:=Nat
def tw12016078210212069523:=Nat
def tw8258639970430576174:=Nat
def tw6351948341243706309:=Nat
def tw16600203369116310237:=Nat
def tw2946698592038206922:=Nat
def tw7557808855454076009:=Nat
def tw7345204562391038793:=Nat
def tw1594468308449224998:=Nat
def tw12168359399602932054:=Nat
def tw407804114169916431:=Nat
def tw14660990529933289628:=Nat
def tw17993285764968395383:=Nat
def tw740291903826092940:=Nat
def tw4929568104098676246:=Nat
def tw9971964528548983592:=Nat
def tw14742202821467247093:=Nat
def tw2222714842876634221:=Nat
def tw2203780049088898672:=Nat
def tw9214396677047200740:=Nat
def tw4204108896834791773:=Nat
def tw15276133401800364932:=Nat
def tw17576335764691368085:=Nat
def tw2249229171192213211:=Nat
def tw16726173742010585155:=Nat
def tw11440238632626612398:=Nat
def tw8043004509313433323:=Nat
def tw4204462672968765378:=Nat
def tw6571239981794669917:=Nat
def tw18446001327159965656:=Nat
def tw16032178453144976203:=Nat
def tw14381236020465703471:=Nat
def tw8842455562575363010:=Nat
def tw8892188116116654652:=Nat
def tw7702946809381018378:=Nat
def tw7119015440356410305:=Nat
def tw8829194878143756032:=Nat
def tw10208721706359091463:=Nat
def tw14136120134862903582:=Nat
def tw14922340408078432837:=Nat
def tw9665454787636923832:=Nat
def tw16965198406408246136:=Nat
def tw4812114296679896323:=Nat
def tw4454709663210795669:=Nat
def tw12080357299147204513:=Nat
def tw11605554184009353244:=Nat
def tw4390132121575124762:=Nat
def tw3737102438778595593:=Nat
def tw5673944654646759539:=Nat
def tw16826891355160172991:=Nat
def tw1991688396612439128:=Nat
def tw14231153493694832319:=Nat
def tw8721035407100696736:=Nat
def tw9499764084081944073:=Nat
def tw13164334451975983425:=Nat
def tw7307753295250597584:=Nat
def tw17254492398391554410:=Nat
def tw2858042644511720288:=Nat
def tw16748667761430163128:=Nat
def tw5578013007840235673:=Nat
def tw11123850692561571605:=Nat
def tw12496011912531468282:=Nat
def tw7840260238954797242:=Nat
def tw13891876495711435078:=Nat
def tw8674288675901807881:=Nat
def tw10070701734847535040:=Nat
def tw1944583221441972464:=Nat
def tw5346593073534565441:=Nat
def tw12707552314447331394:=Nat
def tw3301099683477758278:=Nat
def tw7841287909122112043:=Nat
def tw4044668781984297333:=Nat
def tw16060761994136323437:=Nat
def tw6512377368655786143:=Nat
def tw3565450185094465210:=Nat
def tw6849650424332466466:=Nat
def tw12264663459622429643:=Nat
def tw13341966808241218603:=Nat
def tw9562362272210123427:=Nat
def tw16485094214965490769:=Nat
def tw7124740609198897673:=Nat
def tw13737418408074613617:=Nat
def tw6912909572971494918:=Nat
def tw17738223157874238113:=Nat
def tw1757603448890389704:=Nat
def tw3027637654925236115:=Nat
def tw16009127701272351457:=Nat
def tw951042389341786524:=Nat
def tw10950644788425322901:=Nat
def tw18007333642596747692:=Nat
def tw7130517268560704714:=Nat
def tw5227134149616932743:=Nat
def tw14927067226784239860:=Nat
def tw8635462658947752432:=Nat
def tw5528839186682177043:=Nat
def tw15187847114115300520:=Nat
def tw8481282774406614708:=Nat
def tw3743296844149093618:=Nat
def tw16006978323676138660:=Nat
def tw2125070298262472949:=Nat
def tw16391383748969457565:=Nat
def tw3799738704788068684:=Nat
def tw2580200413556753330:=Nat
def tw7637774280725353686:=Nat
def tw3520804397588447475:=Nat
def tw6951054845010990621:=Nat
def tw8051903230503297501:=Nat
def tw15884683376474535631:=Nat
def tw10387227661118826637:=Nat
def tw1041255958414571225:=Nat
def tw7744912362767444867:=Nat
def tw6077549644593548552:=Nat
def tw1910697983636848286:=Nat
def tw10602138562852119958:=Nat
def tw17228975412142870361:=Nat
def tw15111522500652633143:=Nat
def tw7815418297151856354:=Nat
def tw4182157798854640549:=Nat
def tw1051067268382658118:=Nat
def tw13632412928033127747:=Nat
def tw12578350423734284449:=Nat
def tw9340071388448853670:=Nat
def tw10876186977376647845:=Nat
def tw17479494915387068970:=Nat
def tw5488952230264082503:=Nat
def tw10522422434540599333:=Nat
def tw15975750249211512914:=Nat
def tw18396845959837048053:=Nat
def tw15897780454001231787:=Nat
def tw13020882197472929349:=Nat
def tw9685768404710976683:=Nat
def tw7699025092192706603:=Nat
def tw16376616383995650751:=Nat
def tw13884535766895144643:=Nat
def tw13727331144170313181:=Nat
def tw17545863764957326179:=Nat
def tw9105436429397827254:=Nat
def tw587524649602561341:=Nat
def tw8451232138167400155:=Nat
def tw11478254072854071219:=Nat
def tw8873224659816197607:=Nat
def tw8564995091929714984:=Nat
def tw12838023723452233542:=Nat
def tw1857320330235460901:=Nat
def tw11605350304270860073:=Nat
def tw8946237729091960425:=Nat
def tw1754060114958609392:=Nat
def tw11570289104686840582:=Nat
def tw1646686854498387927:=Nat
def tw13501268722198245324:=Nat
def tw7396101970026335587:=Nat
def tw14579272661523939750:=Nat
def tw1897313413145314130:=Nat
def tw15424534732753714222:=Nat
def tw10467637556105946751:=Nat
def tw18426793986516411598:=Nat
def tw9221827783402603811:=Nat
def tw8136159142888314443:=Nat
def tw9958823338560624581:=Nat
def tw705909510065569150:=Nat
def tw13095255924240395288:=Nat
def tw5344755462953739365:=Nat
def tw17554891761516934883:=Nat
def tw8692093617889794995:=Nat
def tw725060924297314031:=Nat
def tw17752367384717968408:=Nat
def tw3257598103436875675:=Nat
def tw6968299202670914966:=Nat
def tw6149147770293618426:=Nat
def tw9564835233345446562:=Nat
def tw17526358306032192910:=Nat
def tw4301409609769208302:=Nat
def tw15597546536888955884:=Nat
def tw95240451713020913:=Nat
def tw10786846250098749329:=Nat
def tw9747494918134977482:=Nat
def tw16514571020562869387:=Nat
def tw18094721089360393444:=Nat
def tw5731931089079415301:=Nat
def tw4128888338332620352:=Nat
def tw18061698709490819861:=Nat
def tw7347025054518416082:=Nat
def tw4496165568932527192:=Nat
def tw12081718910271392759:=Nat
def tw2808424038092635385:=Nat
def tw1991462821681475804:=Nat
def tw15585144055353766444:=Nat
def tw14266287899308524887:=Nat
def tw1913685860695623512:=Nat
def tw11716779820250712847:=Nat
def tw15635809715154557617:=Nat
def tw9906342037385651484:=Nat
def tw11711272277456852873:=Nat
def tw10048614783500421704:=Nat
def tw1929332314495284811:=Nat
def tw9429866611548870544:=Nat
def tw8303559895221513394:=Nat
def tw13035825056514362224:=Nat
def tw16495096518638322061:=Nat
def tw13290750433661510491:=Nat
def tw1344518066022065773:=Nat
def tw8592096029946059121:=Nat
def tw10825647615294746878:=Nat
def tw5815344823261161892:=Nat
def tw14542871101997877742:=Nat
def tw8623381785233962449:=Nat
def tw6837872353302628697:=Nat
def tw8135814218595788610:=Nat
def tw1029699288884219649:=Nat
def tw7936145112486672641:=Nat
def tw17525696041764065116:=Nat
def tw13056473229602335720:=Nat
def tw10017995012876431703:=Nat
def tw11228936881200072504:=Nat
def tw11478467996497494731:=Nat
def tw11468955904239282439:=Nat
def tw6396750346903513402:=Nat
def tw16733392269690063518:=Nat
def tw17505129984550538336:=Nat
def tw7726433356514833078:=Nat
def tw5081122173216131874:=Nat
def tw16807891392908791789:=Nat
def tw12819419393472121347:=Nat
def tw17125862023687793006:=Nat
def tw5877084485696138936:=Nat
def tw18425793874965526428:=Nat
def tw830174333316547223:=Nat
def tw14146815367234748172:=Nat
def tw9759225381512358424:=Nat
def tw683688222913253581:=Nat
def tw7182791402391972438:=Nat
def tw13147307676196294776:=Nat
def tw6047648066532573938:=Nat
def tw4154688706362758503:=Nat
def tw13220370509671864834:=Nat
def tw5015763038031224440:=Nat
def tw14540282243325406848:=Nat
def tw4796818747792468228:=Nat
def tw9881337657717689006:=Nat
def tw2114432421517396199:=Nat
def tw4620930417878732841:=Nat
def tw18034462548187295820:=Nat
def tw16461707549538946242:=Nat
def tw15922977817876002720:=Nat
def tw4048679254741854124:=Nat
def tw7068785454894238697:=Nat
def tw4754188753849361742:=Nat
def tw13778192861845117239:=Nat
def tw11540191900572858802:=Nat
def tw3734965534218994018:=Nat
def tw14594547902799306202:=Nat
def tw1755288210017546661:=Nat
def tw209089927806158512:=Nat
def tw8723374648180643030:=Nat
def tw1535918750904247488:=Nat
def tw7771759491488162008:=Nat
def tw2953859817866180645:=Nat
def tw8356133057259500749:=Nat
def tw15108798774977295426:=Nat
def tw4993798185843729171:=Nat
def tw1330175577311760488:=Nat
def tw10598171382538887773:=Nat
def tw114841495950670840:=Nat
def tw4800890175767237746:=Nat
def tw1833417050824452566:=Nat
def tw18119243181570681925:=Nat
def tw12422635472207784465:=Nat
def tw17992759544158259970:=Nat
def tw17596536555372553744:=Nat
def tw2493670136547269700:=Nat
def tw6527384147594169280:=Nat
def tw12985043836268139196:=Nat
def tw12610360929225318026:=Nat
def tw8409449716419384909:=Nat
def tw12655088711665356947:=Nat
def tw4733212265006860002:=Nat
def tw9135442118814561024:=Nat
def tw8479736163443815996:=Nat
def tw7170379203261514399:=Nat
def tw4977118776146568020:=Nat
def tw4890027810776891125:=Nat
def tw1382679997260478018:=Nat
def tw16424551295992343485:=Nat
def tw1348876330907318507:=Nat
def tw7289920979647218460:=Nat
def tw6579625973282243162:=Nat
def tw358074748190754729:=Nat
def tw16096440858289755466:=Nat
def tw6632193753971041878:=Nat
def tw11446746891348494015:=Nat
def tw8938307251064713402:=Nat
def tw6452400140291975173:=Nat
def tw6626779596996738960:=Nat
def tw17398861454097057595:=Nat
def tw7426817969354259075:=Nat
def tw8390155610322564439:=Nat
def tw16927734214443741250:=Nat
def tw7916094653908460930:=Nat
def tw7716271782102332797:=Nat
def tw11160767285909249495:=Nat
def tw9337095531596217657:=Nat
def tw10532973886913282361:=Nat
def tw12832431659868699085:=Nat
def tw500186107986645377:=Nat
def tw13024265366512652349:=Nat
def tw2652658588175201590:=Nat
def tw230462563550722649:=Nat
def tw9331932376203630612:=Nat
def tw16852833979348498430:=Nat
def tw11409533175797160180:=Nat
def tw1223161399764632898:=Nat
def tw5901312616585966654:=Nat
def tw649777379959159622:=Nat
def tw6908946909925296925:=Nat
def tw13892559425657501967:=Nat
def tw14995005592357097749:=Nat
def tw4366483599839120468:=Nat
def tw9366763328383507549:=Nat
def tw9709814737573359967:=Nat
def tw2638435592830238384:=Nat
def tw7357264187747988507:=Nat
def tw5648762259636553430:=Nat
def tw4912095716503039170:=Nat
def tw3098993613249382795:=Nat
def tw9793650884477034405:=Nat
def tw17214335995803489617:=Nat
def tw8884825412690439904:=Nat
def tw1392118250746760442:=Nat
def tw16050021264296406308:=Nat
def tw7586706680678292969:=Nat
def tw1304829007330878193:=Nat
def tw7752181778178220179:=Nat
def tw16097689577473828178:=Nat
def tw9089056219796973010:=Nat
def tw16322098951310742050:=Nat
def tw7723427194514921092:=Nat
def tw302831223909044572:=Nat
def tw14158134134779811968:=Nat
def tw13481282046232602583:=Nat
def tw16334845722524585503:=Nat
def tw15899774474107783181:=Nat
def tw18078054210560863238:=Nat
end PySem.W.Fast
theorem zz0(h:1=1:=by rfl):1=1:=h
theorem zz1(h:1=1:=by decide):1=1:=h
theorem zz2(h:1=1:=by decide +kernel):1=1:=h
theorem zz3(h:1=1:=by first | exact .inl rfl | exact .inr rfl | assumption):1=1:=h
theorem zz4(h:1=1:=by intro _;rfl):1=1:=h
theorem zz5(h:1=1:=by first | exact Or.inl rfl | exact Or.inr (Or.inl rfl) | exact Or.inr (Or.inr rfl)):1=1:=h
set_option linter.all false
set_option Elab.async false
set_option maxRecDepth 100000
noncomputable abbrev JS:=PySem.Value->PySem.Shared->Prop
noncomputable abbrev JT:=PySem.W.Frag
noncomputable abbrev JU:=List (PySem.Addr×PySem.Obj)
noncomputable abbrev JV:=List Nat
noncomputable abbrev JW:=PySem.Shared
noncomputable abbrev JX:=List PySem.Value
noncomputable abbrev JY:=List PySem.Addr
noncomputable abbrev JZ:=PySem.Str->Option PySem.Value
noncomputable abbrev J0:=PySem.FuncData
noncomputable abbrev J3:=PySem.Program
noncomputable abbrev J4:=List PySem.Str
noncomputable abbrev J8:=PySem.Around
noncomputable abbrev J9:=PySem.World
noncomputable abbrev Ka:=Option PySem.Addr
noncomputable abbrev Kb:=List PySem.Expr
local macro_rules|`(term|⋯)=>`(by omega)
local macro_rules|`(term|nofun)=>`(by decide)
abbrev IQ:=@List.getElem?_eq_getElem
abbrev IR:=@List.getElem?_eq_some_iff
abbrev IS:=@PySem.Heap.get?_push_of_some
abbrev IT:=@List.length_map
abbrev IU:=@List.mem_singleton
abbrev IV:=@List.getElem?_map
abbrev IW:=@List.mem_of_getElem?
abbrev IX:=@PySem.Heap.get?_update_other
abbrev IY:=@PySem.Heap.get?_push_size
abbrev IZ:=@List.size_toArray
abbrev I_:=@List.getElem_mem
abbrev Ja:=@Int.toNat_natCast
abbrev Jb:=@PySem.Heap.get?_update_self
abbrev Jc:=@List.length_cons
abbrev Jd:=@List.map_append
abbrev Je:=@List.mem_append
abbrev Jf:=@List.map_map
abbrev Jg:=@List.mem_cons
abbrev Jh:=@List.mem_cons_of_mem
abbrev Ji:=@List.length_reverse
abbrev Jj:=@Nat.lt_of_lt_of_le
abbrev Jk:=@Nat.ne_of_lt
abbrev Jl:=@List.getElem?_append_right
abbrev Jm:=@List.getElem?_append_left
abbrev Jn:=@List.length_append
abbrev Jo:=@Nat.le_refl
abbrev Jp:=@Nat.zero_le
abbrev Jq:=@Bool.false_ne_true
abbrev Jr:=@PySem.Heap.lt_size
abbrev Js:=@Option.map_eq_some_iff
abbrev Jt:=@List.getElem?_cons_succ
abbrev Ju:=@List.map_cons
abbrev Jv:=@List.reverse_cons
abbrev Jw:=@Nat.le_trans
abbrev Jx:=@Nat.lt_irrefl
abbrev Jy:=@Nat.lt_succ_self
abbrev Jz:=@List.append_nil
abbrev JA:=@List.getElem?_set_self
abbrev JB:=@List.take_length
abbrev JC:=@List.length_take
abbrev JD:=@List.take_succ
abbrev JE:=@Nat.lt_of_le_of_lt
abbrev JF:=@List.length_eq_zero_iff
abbrev JG:=@List.mem_map
abbrev JH:=@List.all_eq_true
abbrev JI:=@List.getElem_toArray
abbrev JJ:=@List.nil_append
abbrev JK:=@List.length_set
abbrev JL:=@Int.emod_nonneg
abbrev JM:=@Int.emod_lt_of_pos
abbrev JN:=@Int.toNat_of_nonneg
abbrev JO:=@Nat.min_eq_left
abbrev JP:=@List.take_zero
abbrev JQ:=@List.drop_zero
abbrev JR:=@List.concat_eq_append
namespace L2
open PySem PySem.Spec PyProof.Rows
noncomputable abbrev fk:=Sum Int Str
noncomputable def pV:fk->Value->Bool
 | .inl k,v=>Value.isInt k v
 | .inr x,v=>Value.isStrOf x v
noncomputable def FD(w:J9):fk->Int
 | .inl k=>hashInt k
 | .inr x=>hashStr w x
theorem bX:∀{k:fk} {v:Value},pV k v=true->(∃i t,k=Sum.inl i/\v=Value.int i t)\/(∃x t,k=Sum.inr x/\v=Value.str x t)
 | .inl i,v,h=>by
  obtain⟨t,e⟩:=Value.isInt_shape (k:=i) (v:=v) h;exact .inl ⟨i,t,rfl,e⟩
 | .inr x,v,h=>by
  obtain⟨t,e⟩:=Value.isStrOf_shape (x:=x) (v:=v) h;exact .inr ⟨x,t,rfl,e⟩
theorem yY(i:Int)(t:Tok):pV (.inl i) (.int i t)=true:=by simp[pV,Value.isInt]
theorem yN(x:Str)(t:Tok):pV (.inr x) (.str x t)=true:=by simp[pV,Value.isStrOf]
theorem Df(a b:Int):decide ((Sum.inl a:fk)=Sum.inl b)=(a==b):=by
 by_cases e:a=b
 ·subst e;simp
 ·have h:¬ (Sum.inl a:fk)=Sum.inl b:=λq=>e (Sum.inl.inj q)
  rw[decide_eq_false h];exact(beq_eq_false_iff_ne.mpr e).symm
theorem DD(a b:Str):decide ((Sum.inr a:fk)=Sum.inr b)=decide (a=b):=by
 by_cases e:a=b
 ·subst e;simp
 ·have h:¬ (Sum.inr a:fk)=Sum.inr b:=λq=>e (Sum.inr.inj q)
  rw[decide_eq_false h,decide_eq_false e]
theorem Ej(a:Int)(b:Str):decide ((Sum.inl a:fk)=Sum.inr b)=false:=decide_eq_false (λq=>nomatch q)
theorem Ef(a:Str)(b:Int):decide ((Sum.inr a:fk)=Sum.inl b)=false:=decide_eq_false (λq=>nomatch q)
noncomputable def b7(prog:J3)(w:J9):PySem.KeyKind prog w fk where
 is:=pV
 hash:=FD w
 inj:=λv a b ha hb=>by
  rcases bX ha with⟨i,t,rfl,rfl⟩ | ⟨x,t,rfl,rfl⟩
  ·rcases bX hb with⟨j,u,rfl,e⟩ | ⟨y,u,rfl,e⟩
   ·injection e with e1 _;rw[e1]
   ·exact nomatch e
  ·rcases bX hb with⟨j,u,rfl,e⟩ | ⟨y,u,rfl,e⟩
   ·exact nomatch e
   ·injection e with e1 _;rw[e1]
 byValue:=λk v h=>by
  rcases bX h with⟨i,t,rfl,rfl⟩ | ⟨x,t,rfl,rfl⟩<;>rfl
 pyHash:=λhv h=>by
  rcases bX hv with⟨i,t,rfl,rfl⟩ | ⟨x,t,rfl,rfl⟩
  ·exact wpAny_pyHash_int h
  ·exact wpAny_pyHash_str h
 eqBool:=λhu hv h=>by
  rcases bX hu with⟨i,t,rfl,rfl⟩ | ⟨x,t,rfl,rfl⟩
  ·rcases bX hv with⟨j,u,rfl,rfl⟩ | ⟨y,u,rfl,rfl⟩
   ·rw[Df]at h;exact wpAny_eqBool_int h
   ·rw[Ej]at h;exact SeqAt.EqAt.int_str i t y u _ _ _ _ h
  ·rcases bX hv with⟨j,u,rfl,rfl⟩ | ⟨y,u,rfl,rfl⟩
   ·rw[Ef]at h;exact SeqAt.EqAt.str_int x t j u _ _ _ _ h
   ·rw[DD]at h;exact wpAny_eqBool_str h
 «strs»:=λk x t v h=>by
  rcases bX h with⟨i,u,rfl,e⟩ | ⟨y,u,rfl,e⟩
  ·exact nomatch e
  ·injection e with e1 _
   subst e1;cases v<;>rfl
theorem uD(prog:J3)(w:J9)(i:Int)(t:Tok):(b7 prog w).is (.inl i) (.int i t)=true:=yY i t
theorem uE(prog:J3)(w:J9)(x:Str)(t:Tok):(b7 prog w).is (.inr x) (.str x t)=true:=yN x t
inductive V where
 |non | bl (b:Bool) | int (i:Int) | str (x:Str) | byt (b:Array UInt8) | flt (b:UInt64) | ref (a:Addr) | ty (n:String)
 deriving DecidableEq
noncomputable def bq:V->Value->Prop
 | .non,u=>u=Value.none
 | .bl b,u=>u=Value.bool b
 | .int i,u=>∃t,u=Value.int i t
 | .str x,u=>∃t,u=Value.str x t
 | .byt b,u=>∃t,u=Value.bytes b t
 | .flt b,u=>∃t,u=Value.float b t
 | .ref a,u=>u=Value.ref a
 | .ty n,u=>u=Value.type n
noncomputable abbrev aY:List V->List Value->Prop:=Paired bq
theorem aY.length{xs:List V}{us:JX}(r:aY xs us):xs.length=us.length:=Paired.length r
theorem aY.get:∀{xs:List V} {us:JX} {i:Nat} {x:V},aY xs us->xs[i]?=some x->∃u,us[i]?=some u/\bq x u
 |_,_,_,_,.nil,e=>by simp at e
 |_,_,0,_,.cons r _,e=>by simp at e;subst e;exact⟨_,rfl,r⟩
 |_,_,i+1,x,.cons _ t,e=>by
  obtain⟨u,h1,h2⟩:=aY.get (i:=i) (x:=x) t (by simpa using e);exact⟨u,by simpa using h1,h2⟩
theorem aY.set{x:V}{u:Value}(r:bq x u):∀{xs:List V} {us:JX} (i:Nat),aY xs us->aY (xs.set i x) (us.set i u)
 |_,_,_,.nil=>.nil
 |_,_,0,.cons _ t=>.cons r t
 |_,_,i+1,.cons q t=>.cons q (aY.set r i t)
theorem aY.append:∀{xs ys:List V} {us ws:JX},aY xs us->aY ys ws->aY (xs++ys) (us++ws)
 |_,_,_,_,.nil,s=>s
 |_,_,_,_,.cons r t,s=>.cons r (aY.append t s)
theorem aY.take:∀{xs:List V} {us:JX} (n:Nat),aY xs us->aY (xs.take n) (us.take n)
 |_,_,0,_=>.nil
 |_,_,_+1,.nil=>.nil
 |_,_,n+1,.cons r t=>.cons r (aY.take n t)
theorem aY.drop:∀{xs:List V} {us:JX} (n:Nat),aY xs us->aY (xs.drop n) (us.drop n)
 |_,_,0,r=>r
 |_,_,_+1,.nil=>.nil
 |_,_,n+1,.cons _ t=>aY.drop n t
noncomputable def k9:Option V->Option Value->Prop
 |some v,some u=>bq v u
 |none,none=>True
 |_,_=>False
noncomputable def KV{κ:Type}:List (κ×V)->List (κ×Value)->Prop:=Paired fun(p:κ×V) (q:κ×Value)=>p.1=q.1/\bq p.2 q.2
noncomputable def kV:fk->V
 | .inl i=>.int i
 | .inr x=>.str x
inductive HO where
  |lst (xs:List V)
  |tup (xs:List V)
  |dK (kvs:List (fk×V)) | dT (kvs:List (List fk×V))
  |set(S:Int->Bool) (n:Nat)
  |ins (C dx:Addr) (fs:List (Str×V))
  |own (x:Addr)
  |xd (fs:List (Str×V))
  |met (f x:Addr)
  |rng (lo hi:Int)
  |frz (o:Obj) (u:HO)
  |tbl (ps:Array Value)
  |ext (φ:Heap->Prop)
noncomputable abbrev Hp:=Addr->Option HO
noncomputable def aC(H:Hp)(a:Addr)(o:HO):Hp:=λb=>if b=a then some o else H b
theorem ac{H:Hp}{a:Addr}{o:HO}:aC H a o a=some o:=by unfold aC;rw[if_pos rfl]
theorem aj{H:Hp}{a b:Addr}{o:HO}(h:b≠a):aC H a o b=H b:=by unfold aC;rw[if_neg h]
theorem kb{H:Hp}{a:Addr}{o u:HO}:aC (aC H a o) a u=aC H a u:=by
 funext b;unfold aC;split<;>rfl
theorem aJ{H:Hp}{a b:Addr}{o:HO}(h:H a=some o)(h':H b=none):a≠b:=by
 intro e;subst e;rw[h]at h';cases h'
section
variable (P:J3)(w:J9)
noncomputable def bt(H:Hp)(h:Heap)(a:Addr):HO->Prop
 | .lst xs=>xs.length<=sizeLine/\∃(its:JX) (n:Nat),aY xs its/\h.get? a=some {cls:=.type "list",data:=.seq its.toArray n}
 | .tup xs=>xs.length<=sizeLine/\∃its:List Value,aY xs its/\IsTup h a its.toArray
 | .dK kvs=>kvs.length<=sizeLine/\(a==sysModules)=false/\∃vs,KV kvs vs/\h.DictOf (b7 P w) a vs
 | .dT kvs=>kvs.length<=sizeLine/\(a==sysModules)=false/\∃xs:List (List fk×Addr×Value),
   Paired (fun(p:List fk×V) (q:List fk×Addr×Value)=>p.1=q.1/\H q.2.1=some (.tup (p.1.map kV))/\bq p.2 q.2.2) kvs xs /\
   ∃o es ep,h.get? a=some o/\o.ExactDict/\o.data=.dict es ep/\es.toList=xs.map (entryOfKey (tupleKind (b7 P w)))/\(xs.map (·.1)).Nodup
 | .set S n=>h.SetOf (intKind P w) a S n
 | .ins C dx fs=>H dx=some (.own a)/\fs.length<=1000/\dx≠a/\h.get? a=some (PySem.W.instObj C dx) /\
   ∃mA,h.Ns1 dx mA/\(∀f,k9 (fs.lookup f) (mA f))/\PySem.Within mA (fs.map (·.1))
 | .own _=>∃o,h.get? a=some o
 | .xd fs=>∃mA,h.Ns1 a mA/\∀f,k9 (fs.lookup f) (mA f)
 | .rng lo hi=>∃t u v,h.get? a=some {cls:=.type "range",data:=.fields #[.int lo t,.int hi u,.int 1 v]}
 | .frz o u=>h.get? a=some o/\bt H h a u
 | .tbl ps=>h.get? a=some {cls:=.none,data:=.fields ps}
 | .met f x=>h.get? a=some (PySem.W.methodObj (.ref f) (.ref x))
 | .ext φ=>φ h/\(∃o,h.get? a=some o)/\∀h1 h2:Heap,φ h1->(∀o,h1.get? a=some o->h2.get? a=some o)->φ h2
def jk(H:Hp)(h:Heap):Prop:=∀a o,H a=some o->bt P w H h a o
end
section
variable {P:J3}{w:J9}{H H':Hp}{h h':Heap}{a:Addr}{o:HO}
theorem bt.lt(x:bt P w H h a o):a<h.objs.size:=by
 cases o with
 |lst xs=>obtain⟨_,_,_,_,e⟩:=x;exact Jr e
 |tup xs=>obtain⟨_,_,_,p⟩:=x;exact p.lt
 |dK kvs=>obtain⟨_,_,_,_,o,_,_,e,_⟩:=x;exact Jr e
 |dT kvs=>obtain⟨_,_,_,_,o,_,_,e,_⟩:=x;exact Jr e
 |set S n=>obtain⟨o,_,_,_,e,_⟩:=x;exact Jr e
 |ins C dx fs=>obtain⟨_,_,_,e,_⟩:=x;exact Jr e
 |own y=>obtain⟨_,e⟩:=x;exact Jr e
 |xd fs=>obtain⟨_,⟨_,_,_,e,_⟩,_⟩:=x;exact Jr e
 |rng lo hi=>obtain⟨_,_,_,e⟩:=x;exact Jr e
 |frz ob u=>obtain⟨e,_⟩:=x;exact Jr e
 |tbl ps=>exact Jr (show h.get? a=some _ from x)
 |met f y=>exact Jr (show h.get? a=some _ from x)
 |ext φ=>obtain⟨_,⟨_,e⟩,_⟩:=x;exact Jr e
theorem Paired.mapP{α β:Type}{F G:α->β->Prop}:∀{l₁:List α} {l₂:List β},Paired F l₁ l₂->(∀a b,F a b->G a b)->Paired G l₁ l₂
 |_,_,.nil,_=>.nil
 |_,_,.cons r t,f=>.cons (f _ _ r) (Paired.mapP t f)
theorem bt.stay(x:bt P w H h a o)(k:∀b u,(b=a\/H b=some (.own a))->h.get? b=some u->h'.get? b=some u)
  (ho:∀b,H b=some (.own a)->H' b=some (.own a)) (ht:∀b xs,H b=some (.tup xs)->H' b=some (.tup xs)):bt P w H' h' a o:=by
 induction o with
 |lst xs=>obtain⟨z,its,n,r,e⟩:=x;exact⟨z,its,n,r,k _ _ (.inl rfl) e⟩
 |tup xs=>obtain⟨z,its,r,ob,e,c⟩:=x;exact⟨z,its,r,ob,k _ _ (.inl rfl) e,c⟩
 |dK kvs=>obtain⟨z,y,vs,r,ob,es,ep,e,c⟩:=x;exact⟨z,y,vs,r,ob,es,ep,k _ _ (.inl rfl) e,c⟩
 |dT kvs=>
  obtain⟨z,y,xs,r,ob,es,ep,e,c⟩:=x;exact⟨z,y,xs,Paired.mapP r λp q z=>⟨z.1,ht _ _ z.2.1,z.2.2⟩,ob,es,ep,k _ _ (.inl rfl) e,c⟩
 |set S n=>obtain⟨ob,es,ep,t,e,c⟩:=x;exact⟨ob,es,ep,t,k _ _ (.inl rfl) e,c⟩
 |ins C dx fs=>
  obtain⟨d,z,ne,e,mA,⟨od,es,ep,e2,c⟩,r⟩:=x;exact⟨ho _ d,z,ne,k _ _ (.inl rfl) e,mA,⟨od,es,ep,k _ _ (.inr d) e2,c⟩,r⟩
 |own y=>obtain⟨ob,e⟩:=x;exact⟨ob,k _ _ (.inl rfl) e⟩
 |xd fs=>obtain⟨mA,⟨od,es,ep,e,c⟩,r⟩:=x;exact⟨mA,⟨od,es,ep,k _ _ (.inl rfl) e,c⟩,r⟩
 |rng lo hi=>obtain⟨t,u,v,e⟩:=x;exact⟨t,u,v,k _ _ (.inl rfl) e⟩
 |frz ob u ih=>obtain⟨e,q⟩:=x;exact⟨k _ _ (.inl rfl) e,ih q⟩
 |tbl ps=>
  have e:h.get? a=some {cls:=.none,data:=.fields ps}:=x;show h'.get? a=some {cls:=.none,data:=.fields ps};exact k a _ (.inl rfl) e
 |met f y=>
  have e:h.get? a=some (PySem.W.methodObj (.ref f) (.ref y)):=x;show h'.get? a=some (PySem.W.methodObj (.ref f) (.ref y));exact k a _ (.inl rfl) e
 |ext φ=>obtain⟨p,⟨o,e⟩,st⟩:=x;exact⟨st _ _ p λo q=>k _ _ (.inl rfl) q,⟨o,k _ _ (.inl rfl) e⟩,st⟩
theorem jk.lt(x:jk P w H h)(e:H a=some o):a<h.objs.size:=(x a o e).lt
theorem jk.fresh(x:jk P w H h)(e:h.objs.size<=a):H a=none:=by
 cases q:H a with
 |none=>rfl
 |some u=>exact absurd (Jj (x.lt q) e) (Jx _)
theorem jk.kept(x:jk P w H h)(k:∀b u,h.get? b=some u->h'.get? b=some u):jk P w H h':=λa o e=>
 (x a o e).stay (λb u _ q=>k b u q) (λ_ q=>q) λ_ _ q=>q
theorem jk.laid(x:jk P w H h)(k:∀b u,h.get? b=some u->h'.get? b=some u)(hp:h.objs.size<=a)(new:bt P w (aC H a o) h' a o):jk P w (aC H a o) h':=λb u e=>by
 have hn:=x.fresh hp
 by_cases hb:b=a
 ·subst hb;rw[ac]at e;cases e;exact new
 ·rw[aj hb]at e
  exact(x b u e).stay (λc v _ q=>k c v q) (λc q=>by rw[aj (aJ q hn)];exact q) λc xs q=>by rw[aj (aJ q hn)];exact q
end
def Rd(H:Hp)(a:Addr)(u:HO):Prop:=H a=some u\/∃o,H a=some (.frz o u)
theorem Rd.ok{P:J3}{w:J9}{H:Hp}{h:Heap}{a:Addr}{u:HO}(r:Rd H a u)(x:jk P w H h):bt P w H h a u:=by
 rcases r with r | ⟨o,r⟩
 ·exact x a u r
 ·obtain⟨_,q⟩:=x a _ r
  exact q
noncomputable def Ev:Option HO->Prop
 |some (.lst _)=>True
 |some (.dK _)=>True
 |some (.dT _)=>True
 |some (.set _ _)=>True
 |some (.ins _ _ _)=>True
 |some (.ext _)=>True
 |_=>False
section
variable {P:J3}{w:J9}{H:Hp}{h h':Heap}{x e:Addr}{o':HO}
theorem jk.write(ok:jk P w H h)(mu:Ev (H x))(he:e=x\/H e=some (.own x))(k:∀b u,b≠e->h.get? b=some u->h'.get? b=some u)(heo:∃u,h'.get? e=some u)
  (new:bt P w (aC H x o') h' x o'):jk P w (aC H x o') h':=λb u q=>by
 have nown:∀c y,H c=some (.own y)->c≠x:=λc y r z=>by subst z;rw[r]at mu;exact mu
 have ntup:∀c xs,H c=some (.tup xs)->c≠x:=λc xs r z=>by subst z;rw[r]at mu;exact mu
 by_cases hb:b=x
 ·subst hb;rw[ac]at q;cases q;exact new
 ·rw[aj hb]at q
  by_cases hbe:b=e
  ·have q':H b=some (.own x):=by
    rcases he with z | z
    ·exact absurd (hbe.trans z) hb
    ·rw[hbe];exact z
   rw[q]at q';cases q'
   obtain⟨v,hv⟩:=heo;exact⟨v,by rw[hbe];exact hv⟩
  ·refine(ok b u q).stay (λc v hc r=>k c v ?_ r) (λc r=>by rw[aj (nown c b r)];exact r) λc xs r=>by rw[aj (ntup c xs r)];exact r
   rcases hc with rfl | hc
   ·exact hbe
   ·rintro rfl
    rcases he with z | z
    ·exact nown c b hc z
    ·rw[hc]at z;cases z;exact hb rfl
end
structure Un(fs ex:JY)(H H':Hp)(h h':Heap):Prop where
 keep:∀b o,h.get? b=some o->H b=none->b∉fs->b∉ex->h'.get? b=some o
 slot:∀b o,h.get? b=some o->H b=none->b∈fs->b∉ex->∃sl,h'.get? b=some {o with slots:=sl}
 free:∀b o,h.get? b=some o->H b=none->b∉ex->H' b=none
 there:∀b o,h.get? b=some o->b∉ex->∃o',h'.get? b=some o'
 tups:∀b xs,H b=some (.tup xs)->H' b=some (.tup xs)
 frzs:∀b o u,H b=some (.frz o u)->H' b=some (.frz o u)
 tbls:∀b ps,H b=some (.tbl ps)->∃more,H' b=some (.tbl (ps++more))
section
variable {fs fs' ex ex':JY}{H H1 H2:Hp}{h h1 h2 h':Heap}{a x e:Addr}{o:HO}
theorem Un.any(u:Un fs ex H H1 h h1){b:Addr}{ob:Obj}(q:h.get? b=some ob)(n:H b=none)(hx:b∉ex):∃sl,h1.get? b=some {ob with slots:=sl}:=by
 by_cases hb:b∈fs
 ·exact u.slot b ob q n hb hx
 ·exact⟨ob.slots,u.keep b ob q n hb hx⟩
theorem Un.kept(k:∀b u,h.get? b=some u->h'.get? b=some u):Un fs ex H H h h':=
 ⟨λb ob q _ _ _=>k b ob q,λb ob q _ _ _=>⟨ob.slots,k b ob q⟩,λ_ _ _ n _=>n,λb ob q _=>⟨ob,k b ob q⟩,λ_ _ q=>q,λ_ _ _ q=>q,λ_ ps q=>⟨#[],by rw[q];simp⟩⟩
theorem Un.refl:Un fs ex H H h h:=Un.kept λ_ _ q=>q
theorem Un.laid(k:∀b u,h.get? b=some u->h'.get? b=some u)(hp:h.objs.size<=a)(hn:H a=none):Un fs ex H (aC H a o) h h' where
 keep:=λb u q _ _ _=>k b u q
 slot:=λb u q _ _ _=>⟨u.slots,k b u q⟩
 free:=λb u q n _=>by rw[aj (Jk (Jj (Jr q) hp))];exact n
 there:=λb u q _=>⟨u,k b u q⟩
 tups:=λb xs q=>by rw[aj (aJ q hn)];exact q
 frzs:=λb u xs q=>by rw[aj (aJ q hn)];exact q
 tbls:=λb ps q=>⟨#[],by rw[aj (aJ q hn),q];simp⟩
theorem Un.write(mu:Ev (H x))(he:e=x\/H e=some (.own x))(k:∀b u,b≠e->h.get? b=some u->h'.get? b=some u)(heo:∃u,h'.get? e=some u):Un fs ex H (aC H x o) h h':=by
 have hx:∀b,H b=none->b≠x:=λb n z=>by subst z;rw[n]at mu;exact mu
 have hb:∀b,H b=none->b≠e:=λb n z=>by
  subst z;rcases he with r | r
  ·exact hx b n r
  ·rw[n]at r;cases r
 have hm:∀b u,H b=some u->¬ Ev (some u)->b≠x:=λb u q nm z=>by subst z;rw[q]at mu;exact nm mu
 refine⟨λb u q n _ _=>k b u (hb b n) q,λb u q n _ _=>⟨u.slots,k b u (hb b n) q⟩,λb u q n _=>by rw[aj (hx b n)];exact n,λb u q _=>?_,
  λb xs q=>by rw[aj (hm b _ q λz=>z)];exact q,λb u xs q=>by rw[aj (hm b _ q λz=>z)];exact q,λb ps q=>⟨#[],by rw[aj (hm b _ q λz=>z),q];simp⟩⟩
 by_cases hbe:b=e
 ·subst hbe;exact heo
 ·exact⟨u,k b u hbe q⟩
end
noncomputable def EV(h:Heap)(H:Hp):List Addr:=(List.range h.objs.size).filter λa=>(H a).isSome
noncomputable def sV(h:Heap)(H:Hp):Heap:=PySem.W.hideAll h (EV h H)
theorem y0(h:Heap)(H:Hp):(sV h H).objs.size=h.objs.size:=PySem.W.hideAll_size _ _
theorem zS{h:Heap}{H:Hp}{b:Addr}{o:Obj}(e:h.get? b=some o)(n:H b=none):(sV h H).get? b=some o:=
 PySem.W.hideAll_get _ e λhm=>by
  have q:(H b).isSome=true:=(List.mem_filter.mp hm).2;rw[n]at q;simp at q
theorem Cp{h:Heap}{H:Hp}{b:Addr}{o:Obj}(e:(sV h H).get? b=some o):h.get? b=some o/\H b=none:=by
 have e':h.get? b=some o:=PySem.W.of_hideAll (EV h H) e;refine⟨e',?_⟩;cases q:H b with
 |none=>rfl
 |some x=>
  have hm:b∈EV h H:=List.mem_filter.mpr ⟨List.mem_range.mpr (Jr e'),by simp[q]⟩;have z:(sV h H).get? b=none:=PySem.W.hideAll_none (EV h H) hm;rw[z]at e;cases e
noncomputable def B9(g h:Heap)(L:Addr):List (Addr×Obj):=(List.range h.objs.size).filterMap λa=>if a=L\/(g.get? a).isSome=true then none else(h.get? a).map λo=>(a,o)
noncomputable def bv(g h:Heap)(L d:Addr):List (Addr×Obj):=(B9 g h L).filter λp=>decide (p.1≠d)
structure Mod(K:JT)(mg:JZ)(base:Heap):Prop where
 kin:K.In base
 glob:base.Ns mainGlobals mg
 blt:∃mb,base.Ns builtinsNs mb/\∀x:Str,x≠"__name__"->mb x=bootBuiltins x
 nolimit:base.NoLimit
structure Cx where
 prog:Program
 w:World
 K:PySem.W.Frag
 mg:Str->Option Value
 base:Heap
 A:Around
 N:List Str
 s₀:Shared
 H₀:Hp
 env:Env
 outer:List Env
 stack:List Env
 ex:List Addr
 fn:Str->Bool
 calm:Bool
 pn:List (Addr×Obj)
 xe:Value->Shared->Prop
noncomputable def gj(l:List Env):List Addr:=l.filterMap (·.frame)
noncomputable abbrev Cx.fs(X:Cx):List Addr:=gj X.outer
def EZ(sc:Scope)(x:Str):Prop:=sc.names.lookup x=some .local\/sc.names.lookup x=some .cell\/sc.names.lookup x=some .free
def Loc(sc:Scope)(x:Str):Prop:=sc.names.lookup x=some .local\/sc.names.lookup x=some .cell
def Ft(env:Env)(h:Heap)(m:JZ)(x:Str)(u:Value):Prop:=
 (env.kindOf x=some .local/\m x=some u)\/((env.kindOf x=some .cell\/env.kindOf x=some .free)/\∃c,env.cells.lookup x=some c/\h.IsCell c (some u))
structure Cx.Ok(X:Cx):Prop where
 mod:Mod X.K X.mg X.base
 kind:X.env.scope.kind=.function
 glob:X.env.globals=mainGlobals
 blt:X.env.builtins=builtinsNs
 above:X.s₀.heap.objs.size<=X.env.locals
 inj:∀x y c,X.env.cells.lookup x=some c->X.env.cells.lookup y=some c->x=y
 has:∀x,(X.env.kindOf x=some .cell\/X.env.kindOf x=some .free)->∃c,X.env.cells.lookup x=some c
 cab:∀x c,X.fn x=true->X.env.cells.lookup x=some c->X.s₀.heap.objs.size<=c
 hd:X.calm=true->X.A.handled=none
 frames:X.A.frames=some X.stack
 stk:X.stack=X.outer\/(X.stack=X.env::X.outer/\X.env.frame=some X.env.locals)
 exf:∀b∈X.ex,b≠X.env.locals/\∀x c,X.env.cells.lookup x=some c->c≠b
 bs:∀b o,X.base.get? b=some o->X.s₀.heap.get? b=some o/\X.H₀ b=none
 bsz:X.base.objs.size<=X.s₀.heap.objs.size
 noex:∀b o,X.base.get? b=some o->b∉X.ex
 exfs:∀b∈X.ex,b∉X.fs
 funs:X.s₀.heap.FunFrames X.base X.outer
 frf:∀b∈X.fs,X.H₀ b=none
structure Inv(X:Cx)(pins:JU)(σ:List (Option V))(H:Hp)(s:JW):Prop where
 ok:X.Ok
 os:s.os=X.s₀.os
 bare:AllBare s.gens
 base:Un X.fs X.ex X.H₀ H X.s₀.heap s.heap
 loc:∃m,s.heap.Ns X.env.locals m/\∀(i:Nat) (x:Str) (v:V),X.N[i]?=some x->σ[i]?=some (some v)->EZ X.env.scope x->∃u,bq v u/\Ft X.env s.heap m x u
 cell:∀x c,X.env.cells.lookup x=some c->∃v,s.heap.IsCell c v
 free:H X.env.locals=none
 freeC:∀x c,X.env.cells.lookup x=some c->H c=none
 pin:∀p∈X.pn++pins,s.heap.get? p.1=some p.2/\H p.1=none/\p.1≠X.env.locals/\p.1∉X.fs/\∀v,p.2.data≠.cell v
 hok:jk X.prog X.w H s.heap
 len:σ.length=X.N.length
section
variable {X:Cx}{pins:JU}{σ:List (Option V)}{H H':Hp}{s:JW}{h':Heap}
theorem Cx.Ok.nofr(ok:X.Ok){b:Addr}{o:Obj}(e:X.base.get? b=some o):b∉X.fs:=λhb=>by
 have:=(ok.funs.mem hb).1;rw[e]at this;cases this
theorem Inv.bs(I:Inv X pins σ H s):∀b o,X.base.get? b=some o->s.heap.get? b=some o/\H b=none:=λb o e=>
 ⟨I.base.keep b o (I.ok.bs b o e).1 (I.ok.bs b o e).2 (I.ok.nofr e) (I.ok.noex b o e),I.base.free b o (I.ok.bs b o e).1 (I.ok.bs b o e).2 (I.ok.noex b o e)⟩
theorem Inv.bk(I:Inv X pins σ H s):∀b o,X.base.get? b=some o->s.heap.get? b=some o:=λb o e=>(I.bs b o e).1
theorem Inv.mod(I:Inv X pins σ H s):Mod X.K X.mg X.base:=I.ok.mod
theorem Inv.kIn(I:Inv X pins σ H s):X.K.In s.heap:=I.ok.mod.kin.keeps I.bk
theorem Inv.lt(I:Inv X pins σ H s):X.env.locals<s.heap.objs.size:=let ⟨_,hn,_⟩:=I.loc;hn.lt
theorem Inv.sz(I:Inv X pins σ H s):X.s₀.heap.objs.size<=s.heap.objs.size:=Jw I.ok.above (Nat.le_of_lt I.lt)
theorem Inv.nofs(I:Inv X pins σ H s){a:Addr}(h:s.heap.objs.size<=a):a∉X.fs:=λhb=>by
 obtain⟨_,o,ho,_⟩:=I.ok.funs.mem hb;exact absurd (Jj (Jr ho) (Jw I.sz h)) (Jx _)
theorem Inv.cne(I:Inv X pins σ H s):∀x c,X.env.cells.lookup x=some c->c≠X.env.locals:=λx c e z=>by
 obtain⟨v,o,ho,hd⟩:=I.cell x c e;obtain⟨m,⟨o',es,ep,ho',hd',_⟩,_⟩:=I.loc;rw[z,ho']at ho;cases ho;rw[hd']at hd;cases hd
theorem Inv.funs(I:Inv X pins σ H s):s.heap.FunFrames X.base X.outer:=by
 have all:∀(l:List Env),(∀b∈gj l,b∈X.fs)->X.s₀.heap.FunFrames X.base l->s.heap.FunFrames X.base l:=by
  intro l
  induction l with
  |nil=>intro _ _;trivial
  |cons env r ih=>
   intro hs hl;obtain⟨hk,⟨L,o,hf,hn,ho,hd⟩,hr⟩:=hl;have hL:L∈X.fs:=hs L (by unfold gj;rw[List.filterMap_cons,hf];exact List.mem_cons_self);obtain⟨sl,e⟩:=I.base.slot L o ho (I.ok.frf L hL) hL λz=>I.ok.exfs L z hL;exact⟨hk,⟨L,_,hf,hn,e,hd⟩,ih (λb hb=>hs b (by unfold gj;rw[List.filterMap_cons,hf];exact Jh _ hb)) hr⟩
 exact all X.outer (λ_ hb=>hb) I.ok.funs
theorem Inv.stack(I:Inv X pins σ H s):s.heap.FunFrames X.base X.stack:=by
 rcases I.ok.stk with e | ⟨e,hf⟩
 ·rw[e];exact I.funs
 ·rw[e]
  obtain⟨m,hn,_⟩:=I.loc;refine .cons (by rw[I.ok.kind];decide) hf hn ?_ I.funs;exact Heap.get?_none_of_le (Jw I.ok.bsz I.ok.above)
theorem Inv.stkSub(I:Inv X pins σ H s):∀b∈gj X.stack,b∈X.env.locals::X.fs:=λb hb=>by
 rcases I.ok.stk with e | ⟨e,hf⟩
 ·rw[e]at hb;exact Jh _ hb
 ·rw[e]at hb
  unfold gj at hb;rw[List.filterMap_cons,hf]at hb;exact hb
theorem Inv.stkFree(I:Inv X pins σ H s):∀b∈gj X.stack,H b=none:=λb hb=>by
 rcases Jg.mp (I.stkSub b hb) with e | hb
 ·rw[e];exact I.free
 ·obtain⟨_,o,ho,_⟩:=I.ok.funs.mem hb
  exact I.base.free b o ho (I.ok.frf b hb) λz=>I.ok.exfs b z hb
theorem Inv.step{g':Array GenState}{t':Nat}{d':Drawn}{ch:JY}(I:Inv X pins σ H s)
  (hch:∀b∈ch,(b∈X.ex\/X.s₀.heap.objs.size<=b)/\b≠X.env.locals/\(∀x c,X.env.cells.lookup x=some c->c≠b)/\∀p∈X.pn++pins,p.1≠b)
  (keep:∀b o,b≠X.env.locals->b∉X.fs->b∉ch->s.heap.get? b=some o->H b=none->h'.get? b=some o)
  (slot:∀b o,b≠X.env.locals->b∈X.fs->b∉ch->s.heap.get? b=some o->H b=none->∃sl,h'.get? b=some {o with slots:=sl}) (free:∀b o,b∉ch->s.heap.get? b=some o->H b=none->H' b=none)
  (there:∀b o,b∉ch->s.heap.get? b=some o->∃o',h'.get? b=some o')
  (tups:∀b xs,H b=some (.tup xs)->H' b=some (.tup xs)) (frzs:∀b o u,H b=some (.frz o u)->H' b=some (.frz o u)) (tbls:∀b ps,H b=some (.tbl ps)->∃more,H' b=some (.tbl (ps++more)))
  (ns:∀m,s.heap.Ns X.env.locals m->h'.Ns X.env.locals m) (hok:jk X.prog X.w H' h') (hg:AllBare g') :
  Inv X pins σ H' {s with heap:=h',gens:=g',drawn:=d',toks:=t' }:=by
 have neL:∀b o,X.s₀.heap.get? b=some o->b≠X.env.locals:=λb o e=>Jk (Jj (Jr e) I.ok.above);have neC:∀b o,X.s₀.heap.get? b=some o->b∉X.ex->b∉ch:=λb o e hx hb=>by
  rcases(hch b hb).1 with z | z
  ·exact hx z
  ·exact absurd (Jj (Jr e) z) (Jx _)
 have cellK:∀x c,X.env.cells.lookup x=some c->∀v,s.heap.IsCell c v->h'.IsCell c v:=λx c e v ⟨o,ho,hd⟩=>by
  have nch:c∉ch:=λz=>(hch c z).2.2.1 x c e rfl
  by_cases hc:c∈X.fs
  ·obtain⟨sl,q⟩:=slot c o (I.cne x c e) hc nch ho (I.freeC x c e)
   exact⟨_,q,hd⟩
  ·exact⟨o,keep c o (I.cne x c e) hc nch ho (I.freeC x c e),hd⟩
 refine⟨I.ok,I.os,hg,⟨λb o e n hb hx=>?_,λb o e n hb hx=>?_,λb o e n hx=>?_,λb o e hx=>?_,λb xs e=>tups b xs (I.base.tups b xs e),λb o xs e=>frzs b o xs (I.base.frzs b o xs e),λb ps e=>?_⟩,?_,λx c e=>?_,?_,λx c e=>?_,λp hp=>?_,hok,I.len⟩
 ·exact keep b o (neL b o e) hb (neC b o e hx) (I.base.keep b o e n hb hx) (I.base.free b o e n hx)
 ·obtain⟨sl,e1⟩:=I.base.slot b o e n hb hx
  obtain⟨sl',e2⟩:=slot b _ (neL b o e) hb (neC b o e hx) e1 (I.base.free b o e n hx);exact⟨sl',e2⟩
 ·obtain⟨o',e1⟩:=I.base.there b o e hx
  exact free b o' (neC b o e hx) e1 (I.base.free b o e n hx)
 ·obtain⟨o',e1⟩:=I.base.there b o e hx
  exact there b o' (neC b o e hx) e1
 ·obtain⟨m1,e1⟩:=I.base.tbls b ps e
  obtain⟨m2,e2⟩:=tbls b _ e1;exact⟨m1++m2,by rw[e2,Array.append_assoc]⟩
 ·obtain⟨m,hn,hl⟩:=I.loc
  refine⟨m,ns m hn,λi x v e1 e2 e3=>?_⟩;obtain⟨u,r,l⟩:=hl i x v e1 e2 e3;refine⟨u,r,?_⟩;rcases l with l | ⟨k,c,e,z⟩
  ·exact .inl l
  ·exact .inr ⟨k,c,e,cellK x c e _ z⟩
 ·obtain⟨v,z⟩:=I.cell x c e
  exact⟨v,cellK x c e v z⟩
 ·obtain⟨m,⟨o,_,_,ho,_⟩,_⟩:=I.loc
  exact free _ o (λz=>(hch _ z).2.1 rfl) ho I.free
 ·obtain⟨v,o,ho,hd⟩:=I.cell x c e
  exact free c o (λz=>(hch c z).2.2.1 x c e rfl) ho (I.freeC x c e)
 ·obtain⟨e,n,ne,nf,d⟩:=I.pin p hp
  have nch:p.1∉ch:=λz=>(hch p.1 z).2.2.2 p hp rfl;exact⟨keep p.1 p.2 ne nf nch e n,free p.1 p.2 nch e n,ne,nf,d⟩
theorem Inv.un{t':Nat}(I:Inv X pins σ H s)(u:Un X.fs [] H H' s.heap h')(hok:jk X.prog X.w H' h'):Inv X pins σ H' {s with heap:=h',toks:=t' }:=by
 obtain⟨m,⟨o,es,ep,ho,r⟩,_⟩:=id I.loc;obtain⟨sl,hL⟩:=u.any ho I.free (by simp);exact I.step (g':=s.gens) (d':=s.drawn) (ch:=[]) (λ_ z=>nomatch z) (λb o _ hb _ e n=>u.keep b o e n hb (by simp)) (λb o _ hb _ e n=>u.slot b o e n hb (by simp)) (λb o _ e n=>u.free b o e n (by simp)) (λb o _ e=>u.there b o e (by simp)) u.tups u.frzs u.tbls (λm' hm=>by
  obtain⟨o',es',ep',ho',r'⟩:=hm;rw[ho]at ho';cases ho'
  exact⟨_,es',ep',hL,r'⟩) hok I.bare
theorem Inv.call{g':Array GenState}{t':Nat}{d':Drawn}{ch:JY}(I:Inv X pins σ H s)(u:Un (gj X.stack) ch H H' s.heap h')(hok:jk X.prog X.w H' h')(hg:AllBare g')
  (hch:∀b∈ch,(b∈X.ex\/X.s₀.heap.objs.size<=b)/\b≠X.env.locals/\(∀x c,X.env.cells.lookup x=some c->c≠b)/\∀p∈X.pn++pins,p.1≠b) :
  Inv X pins σ H' {s with heap:=h',gens:=g',drawn:=d',toks:=t' }:=by
 obtain⟨m,⟨o,es,ep,ho,r⟩,_⟩:=id I.loc;obtain⟨sl,hL⟩:=u.any ho I.free λz=>(hch _ z).2.1 rfl;exact I.step (ch:=ch) hch (λb o hL hb hc e n=>u.keep b o e n (λz=>(Jg.mp (I.stkSub b z)).elim hL hb) hc) (λb o _ _ hc e n=>u.any e n hc) (λb o hc e n=>u.free b o e n hc) (λb o hc e=>u.there b o e hc) u.tups u.frzs u.tbls (λm' hm=>by
  obtain⟨o',es',ep',ho',r'⟩:=hm;rw[ho]at ho';cases ho'
  exact⟨_,es',ep',hL,r'⟩) hok hg
theorem Inv.turned{t':Nat}{it:Addr}(I:Inv X pins σ H s)(k:∀b o,b≠it->s.heap.get? b=some o->h'.get? b=some o)(hn:H it=none)(hL:it≠X.env.locals)
  (h1:it∈X.ex\/X.s₀.heap.objs.size<=it) (h2:∀x c,X.env.cells.lookup x=some c->c≠it) (h3:∀p∈X.pn++pins,p.1≠it):Inv X pins σ H {s with heap:=h',toks:=t' }:=by
 have nit:∀b u,H b=some u->b≠it:=λb u e z=>by rw[z,hn]at e;cases e
 refine I.step (g':=s.gens) (d':=s.drawn) (ch:=[it]) (λb hb=>?_) (λb o _ _ hc e _=>k b o (λz=>hc (by simp[z])) e) (λb o _ _ hc e _=>⟨o.slots,k b o (λz=>hc (by simp[z])) e⟩) (λ_ _ _ _ n=>n)
  (λb o hc e=>⟨o,k b o (λz=>hc (by simp[z])) e⟩) (λ_ _ e=>e) (λ_ _ _ e=>e) (λb ps e=>⟨#[],by rw[e];simp⟩) (λm hm=>?_) (λb u e=>?_) I.bare
 ·have e:b=it:=by simpa using hb
  subst e;exact⟨h1,hL,h2,h3⟩
 ·obtain⟨o,es,ep,ho,r⟩:=hm
  exact⟨o,es,ep,k _ o (Ne.symm hL) ho,r⟩
 ·refine(I.hok b u e).stay (λc v hc q=>k c v ?_ q) (λ_ q=>q) λ_ _ q=>q
  rcases hc with z | z
  ·rw[z];exact nit b u e
  ·exact nit c _ z
theorem Inv.tok(I:Inv X pins σ H s)(t:Nat):Inv X pins σ H {s with toks:=t}:=I.un (h':=s.heap) (t':=t) Un.refl I.hok
theorem Inv.kept{t':Nat}(I:Inv X pins σ H s)(k:∀b u,s.heap.get? b=some u->h'.get? b=some u):Inv X pins σ H {s with heap:=h',toks:=t' }:=I.un (Un.kept k) (I.hok.kept k)
theorem Inv.laid{a:Addr}{o:HO}{t':Nat}(I:Inv X pins σ H s)(k:∀b u,s.heap.get? b=some u->h'.get? b=some u)(hp:s.heap.objs.size<=a)(new:bt X.prog X.w (aC H a o) h' a o) :
  Inv X pins σ (aC H a o) {s with heap:=h',toks:=t' }:=I.un (Un.laid k hp (I.hok.fresh hp)) (I.hok.laid k hp new)
theorem Inv.write{x e:Addr}{o:HO}{t':Nat}(I:Inv X pins σ H s)(mu:Ev (H x))(he:e=x\/H e=some (.own x))(k:∀b u,b≠e->s.heap.get? b=some u->h'.get? b=some u)(heo:∃u,h'.get? e=some u)
  (new:bt X.prog X.w (aC H x o) h' x o):Inv X pins σ (aC H x o) {s with heap:=h',toks:=t' }:=I.un (Un.write mu he k heo) (I.hok.write mu he k heo new)
theorem Inv.pins_of{pins':JU}(I:Inv X pins σ H s)(h:∀p∈pins',s.heap.get? p.1=some p.2/\H p.1=none/\p.1≠X.env.locals/\p.1∉X.fs/\∀v,p.2.data≠.cell v):Inv X pins' σ H s:=
 ⟨I.ok,I.os,I.bare,I.base,I.loc,I.cell,I.free,I.freeC,λp hp=>(Je.mp hp).elim (λz=>I.pin p (List.mem_append_left _ z)) (h p),I.hok,I.len⟩
theorem o6{N:J4}(hN:N.Nodup){i j:Nat}{x:Str}(a:N[i]?=some x)(b:N[j]?=some x):i=j:=by
 obtain⟨h1,e1⟩:=IR.mp a;obtain⟨h2,e2⟩:=IR.mp b;exact(List.getElem_inj hN).mp (e1.trans e2.symm)
theorem qD{M:Model}{A:J8}{E:JS}{i:Nat}{x:Str}{v:V}{u:Value}{Q:Unit->Shared->Prop}(I:Inv X pins σ H s)(hN:X.N.Nodup)(hi:X.N[i]?=some x)(hx:Loc X.env.scope x)(r:bq v u)
  (h:∀s',Inv X pins (σ.set i (some v)) H s'->(∃a,Heap.SameBut a s.heap s'.heap/\(a=X.env.locals\/X.env.cells.lookup x=some a))->Q () s') (hf:autoParam (X.fn x=true\/X.env.scope.names.lookup x=some .local) zz3._auto_1):wpAny M A (storeName X.env x u) Q E s:=by
 obtain⟨m,hn,hl⟩:=id I.loc;have hcls:(X.env.scope.kind==.class||(X.env.scope.kind==.module&&X.env.locals != X.env.globals))=false:=by rw[I.ok.kind];rfl
 have hiσ:i<σ.length:=by rw[I.len];exact(IR.mp hi).1
 have cne:=I.cne;have tracked:∀{a:Addr} {h':Heap},(∃o,s.heap.get? a=some o/\H a=none)->Heap.SameBut a s.heap h'->jk X.prog X.w H h':=fun{a h'} ha hs b ob e=>by
  obtain⟨_,_,hfree⟩:=ha;refine(I.hok b ob e).stay (λc w' hc q=>(hs.2 c ?_).trans q) (λ_ q=>q) λ_ _ q=>q;rintro rfl;rcases hc with rfl | hc
  ·rw[hfree]at e;cases e
  ·rw[hfree]at hc;cases hc
 rcases hx with hk | hk
 ·refine wpAny_storeName_local hk hn (λh' hn' hs=>?_) hcls
  obtain⟨oL,_,_,hoL,_⟩:=id hn;refine h _ ⟨I.ok,I.os,I.bare,⟨λb o e n hb hx=>?_,λb o e n hb hx=>?_,I.base.free,λb o e hx=>?_,I.base.tups,I.base.frzs,I.base.tbls⟩,⟨_,hn',λj y v' e1 e2 e3=>?_⟩,λy c e=>?_,I.free,I.freeC,λp hp=>?_,tracked ⟨oL,hoL,I.free⟩ hs,by simpa using I.len⟩ ⟨_,hs,.inl rfl⟩
  ·exact(hs.2 b (Jk (Jj (Jr e) I.ok.above))).trans (I.base.keep b o e n hb hx)
  ·obtain⟨sl,e1⟩:=I.base.slot b o e n hb hx
   exact⟨sl,(hs.2 b (Jk (Jj (Jr e) I.ok.above))).trans e1⟩
  ·obtain⟨o',e1⟩:=I.base.there b o e hx
   exact⟨o',(hs.2 b (Jk (Jj (Jr e) I.ok.above))).trans e1⟩
  ·by_cases hj:j=i
   ·subst hj
    rw[hi]at e1;cases e1
    rw[JA hiσ]at e2;cases e2;exact⟨u,r,.inl ⟨hk,by simp⟩⟩
   ·rw[List.getElem?_set_ne (Ne.symm hj)]at e2
    obtain⟨u',r',q⟩:=hl j y v' e1 e2 e3;refine⟨u',r',?_⟩;rcases q with⟨k,e⟩ | ⟨k,c,e,z⟩
    ·refine .inl ⟨k,?_⟩
     have:y≠x:=λe=>hj (o6 hN e1 (e▸hi));simp[this,e]
    ·exact .inr ⟨k,c,e,z.sameBut hs (cne y c e)⟩
  ·obtain⟨w',z⟩:=I.cell y c e
   exact⟨w',z.sameBut hs (cne y c e)⟩
  ·obtain⟨e,n,ne,nf,d⟩:=I.pin p hp
   exact⟨(hs.2 p.1 ne).trans e,n,ne,nf,d⟩
 ·have hfn:X.fn x=true:=by
   rcases hf with z | z
   ·exact z
   ·rw[z]at hk;cases hk
  obtain⟨c,hc⟩:=I.ok.has x (.inl hk);obtain⟨w',z⟩:=I.cell x c hc;refine wpAny_storeName_cell I.ok.kind hk hc z (λh' hc' hs=>?_);obtain⟨oc,hoc,hocd⟩:=id z;refine h {s with heap:=h' } ⟨I.ok,I.os,I.bare,⟨λb o e n hb hx=>?_,λb o e n hb hx=>?_,I.base.free,λb o e hx=>?_,I.base.tups,I.base.frzs,I.base.tbls⟩,⟨m,hn.sameBut hs (Ne.symm (cne x c hc)),λj y v' e1 e2 e3=>?_⟩,λy c' e=>?_,I.free,I.freeC,λp hp=>?_,tracked ⟨oc,hoc,I.freeC x c hc⟩ hs,by simpa using I.len⟩ ⟨c,hs,.inr hc⟩
  ·exact(hs.2 b (Jk (Jj (Jr e) (I.ok.cab x c hfn hc)))).trans (I.base.keep b o e n hb hx)
  ·obtain⟨sl,e1⟩:=I.base.slot b o e n hb hx
   exact⟨sl,(hs.2 b (Jk (Jj (Jr e) (I.ok.cab x c hfn hc)))).trans e1⟩
  ·obtain⟨o',e1⟩:=I.base.there b o e hx
   exact⟨o',(hs.2 b (Jk (Jj (Jr e) (I.ok.cab x c hfn hc)))).trans e1⟩
  ·by_cases hj:j=i
   ·subst hj
    rw[hi]at e1;cases e1
    rw[JA hiσ]at e2;cases e2;exact⟨u,r,.inr ⟨.inl hk,c,hc,hc'⟩⟩
   ·rw[List.getElem?_set_ne (Ne.symm hj)]at e2
    obtain⟨u',r',q⟩:=hl j y v' e1 e2 e3;refine⟨u',r',?_⟩;rcases q with q | ⟨k,c',e,z'⟩
    ·exact .inl q
    ·refine .inr ⟨k,c',e,z'.sameBut hs ?_⟩
     rintro rfl;exact hj (o6 hN e1 (I.ok.inj _ _ _ e hc▸hi))
  ·by_cases hcc:c'=c
   ·subst hcc;exact⟨_,hc'⟩
   ·obtain⟨w2,z2⟩:=I.cell y c' e
    exact⟨w2,z2.sameBut hs hcc⟩
  ·obtain⟨e,n,ne,nf,d⟩:=I.pin p hp
   refine⟨(hs.2 p.1 ?_).trans e,n,ne,nf,d⟩;intro q;rw[q,hoc]at e;have q':oc=p.2:=Option.some.inj e;exact d w' (by rw[<- q'];exact hocd)
theorem ku{M:Model}{A:J8}{E:JS}{i:Nat}{x:Str}{v:V}{u:Value}{Q:Unit->Shared->Prop}(I:Inv X pins σ H s)(hN:X.N.Nodup)(hi:X.N[i]?=some x)(hx:Loc X.env.scope x)(r:bq v u)
  (h:∀s',Inv X pins (σ.set i (some v)) H s'->Q () s') (hf:autoParam (X.fn x=true\/X.env.scope.names.lookup x=some .local) zz3._auto_1):wpAny M A (storeName X.env x u) Q E s:=
 qD I hN hi hx r (λs' I' _=>h s' I') hf
theorem Inv.call'{s':JW}{ch:JY}(I:Inv X pins σ H s)(ho:s'.os=s.os)(u:Un (gj X.stack) ch H H' s.heap s'.heap)(hok:jk X.prog X.w H' s'.heap)(hg:AllBare s'.gens)
  (hch:∀b∈ch,(b∈X.ex\/X.s₀.heap.objs.size<=b)/\b≠X.env.locals/\(∀x c,X.env.cells.lookup x=some c->c≠b)/\∀p∈X.pn++pins,p.1≠b):Inv X pins σ H' s':=by
 obtain⟨h',g',d',t',o'⟩:=s';have e:o'=s.os:=ho;subst e;exact I.call (g':=g') (t':=t') (d':=d') u hok hg hch
end
noncomputable abbrev XK:=Value->Option Addr->Hp->Prop
noncomputable abbrev St:=List (Option V)
noncomputable abbrev VK:=V->Hp->Prop
noncomputable abbrev TE:=St->Hp->VK->Prop
noncomputable abbrev TT:=St->Hp->(Bool->Hp->Prop)->Prop
noncomputable abbrev TA:=St->Hp->(List V->Hp->Prop)->Prop
structure gY where
 nx:St->Hp->Prop
 rt:VK
 bk:St->Hp->Prop:=λ_ _=>False
 ct:St->Hp->Prop:=λ_ _=>False
noncomputable abbrev TS:=gY->St->Hp->Prop
def EP(X:Cx)(pins:JU)(σ:St)(Q:VK)(u:Value)(s':JW):Prop:=∃v H',Inv X pins σ H' s'/\bq v u/\Q v H'
def TP(X:Cx)(pins:JU)(σ:St)(Q:Bool->Hp->Prop)(b:Bool)(s':JW):Prop:=∃H',Inv X pins σ H' s'/\Q b H'
def AP(X:Cx)(pins:JU)(σ:St)(Q:List V->Hp->Prop)(us:JX)(s':JW):Prop:=∃vs H',Inv X pins σ H' s'/\aY vs us/\Q vs H'
def SP(X:Cx)(pins:JU)(D:gY)(f:Flow)(s':JW):Prop:=
 match f with
 | .next=>∃σ' H',Inv X pins σ' H' s'/\D.nx σ' H'
 | .brk=>∃σ' H',Inv X pins σ' H' s'/\D.bk σ' H'
 | .cont=>∃σ' H',Inv X pins σ' H' s'/\D.ct σ' H'
 | .ret u=>∃v σ' H',Inv X pins σ' H' s'/\bq v u/\D.rt v H'
def PE(X:Cx)(e:Expr)(t:TE):Prop:=
 ∀(pins:JU) (s:JW) (σ:St) (H:Hp) (Q:VK),Inv X pins σ H s->t σ H Q->wpAny (model X.prog X.w) X.A (eval e X.env) (EP X pins σ Q) X.xe s
def PT(X:Cx)(e:Expr)(t:TT):Prop:=
 ∀(pins:JU) (s:JW) (σ:St) (H:Hp) (Q:Bool->Hp->Prop),Inv X pins σ H s->t σ H Q->wpAny (model X.prog X.w) X.A (isTrue e X.env (eval e X.env)) (TP X pins σ Q) X.xe s
def PW(X:Cx)(e:Expr)(t:TT):Prop:=
 ∀(whole:Sem Value) (pins:JU) (s:JW) (σ:St) (H:Hp) (Q:Bool->Hp->Prop),Inv X pins σ H s->t σ H Q->wpAny (model X.prog X.w) X.A (isTrue e X.env whole) (TP X pins σ Q) X.xe s
theorem PW.pt{X:Cx}{e:Expr}{t:TT}(h:PW X e t):PT X e t:=h _
def PA(X:Cx)(es:Kb)(t:TA):Prop:=
 ∀(pos:Pos) (pins:JU) (s:JW) (σ:St) (H:Hp) (Q:List V->Hp->Prop),Inv X pins σ H s->t σ H Q->wpAny (model X.prog X.w) X.A (spliced (backTo pos (starEach es X.env))) (AP X pins σ Q) X.xe s
def PS(X:Cx)(st:Stmt)(t:TS):Prop:=
 ∀(pins:JU) (s:JW) (σ:St) (H:Hp) (D:gY),Inv X pins σ H s->t D σ H->wpAny (model X.prog X.w) X.A (exec st X.env) (SP X pins D) X.xe s
def o9(X:Cx)(st:List Stmt)(t:TS):Prop:=
 ∀(pins:JU) (s:JW) (σ:St) (H:Hp) (D:gY),Inv X pins σ H s->t D σ H->wpAny (model X.prog X.w) X.A (execs st X.env) (SP X pins D) X.xe s
theorem bM{α:Type}{t:Sem α}{Q Q':α->Shared->Prop}{M:Model}{A:J8}{E:JS}{s:JW}(h:wpAny M A t Q E s)(hQ:∀a s,Q a s->Q' a s):wpAny M A t Q' E s:=wpAny_mono h hQ λ_ _ x=>x
section
variable {X:Cx}
theorem IN{a b:Expr}{ta tb:TE}(ha:PE X a ta)(hb:PE X b tb){pins:JU}{s:JW}{σ:St}{H:Hp}{R:V->V->Hp->Prop}(I:Inv X pins σ H s)(h:ta σ H λx H1=>tb σ H1 λy H2=>R x y H2)
  {α:Type} {Q:α->Shared->Prop} {f:Value->Value->Sem α}
  (hf:∀v u s2 x y H2,Inv X pins σ H2 s2->bq x v->bq y u->R x y H2->wpAny (model X.prog X.w) X.A (f v u) Q X.xe s2) :
  wpAny (model X.prog X.w) X.A (eval a X.env) (λv s₁=>wpAny (model X.prog X.w) X.A (eval b X.env) (λu s₂=>wpAny (model X.prog X.w) X.A (f v u) Q X.xe s₂) X.xe s₁) X.xe s:=by
 refine bM (ha pins s σ H _ I h) λv s1 ⟨x,H1,I1,r1,q1⟩=>?_;refine bM (hb pins s1 σ H1 _ I1 q1) λu s2 ⟨y,H2,I2,r2,q2⟩=>?_;exact hf v u s2 x y H2 I2 r1 r2 q2
noncomputable def yH(i:Nat):TE:=λσ H Q=>∃v,σ[i]?=some (some v)/\Q v H
noncomputable def tC(v:V):TE:=λ_ H Q=>Q v H
theorem Eh{i:Nat}{x:Str}{pos:Pos}(hN:X.N[i]?=some x)(hv:EZ X.env.scope x)(hd:autoParam ((x==("__debug__":Str))=false) zz1._auto_1)(hcd:autoParam ((x==("__classdict__":Str))=false) zz1._auto_1):PE X (.Name x pos) (yH i):=by
 intro pins s σ H Q I h;obtain⟨v,e,h⟩:=h;obtain⟨m,hn,hl⟩:=I.loc;obtain⟨u,r,l⟩:=hl i x v hN e hv;have fin:EP X pins σ Q u s:=⟨v,H,I,r,h⟩;rcases l with⟨hk,hm⟩ | ⟨hk,c,hc,hcell⟩
 ·exact wpAny_Name (wpAny_loadName_local I.ok.kind hk hn hm fin) hd
 ·rcases hk with hk | hk
  ·exact wpAny_Name (wpAny_loadName_cell I.ok.kind hk hc hcell fin) hd
  ·exact wpAny_Name (wpAny_loadName_free I.ok.kind hk hc hcell fin hcd) hd
theorem af{i j pos}:PE X (.Constant (.int i) j pos) (tC (.int i)):=λ_ _ _ H _ I h=>wpAny_Constant_int ⟨.int i,H,I.tok _,⟨_,rfl⟩,h⟩
theorem zI{b j pos}:PE X (.Constant (.bool b) j pos) (tC (.bl b)):=λ_ _ _ H _ I h=>Constant_bool ⟨.bl b,H,I,rfl,h⟩
theorem bU{j pos}:PE X (.Constant .none j pos) (tC .non):=λ_ _ _ H _ I h=>Constant_none ⟨.non,H,I,rfl,h⟩
theorem cT{x j pos}:PE X (.Constant (.str x) j pos) (tC (.str x)):=λ_ _ _ H _ I h=>Calls.Constant_str ⟨.str x,H,I.tok _,⟨_,rfl⟩,h⟩
def Gl(X:Cx)(x:Str):Prop:=X.env.kindOf x=some .globalImplicit
theorem dW{E:JS}{pins:JU}{s:JW}{σ:St}{H:Hp}{x:Str}{u:Value}{pos:Pos}{Q:JS}(I:Inv X pins σ H s)(hg:Gl X x)(hm:X.mg x=some u)(h:Q u s)
  (hd:autoParam ((x==("__debug__":Str))=false) zz1._auto_1):wpAny (model X.prog X.w) X.A (eval (.Name x pos) X.env) Q E s:=
 Calls.Name_function_global I.ok.kind hg (Calls.loadGlobal_global (by rw[I.ok.glob];exact I.mod.glob.keeps I.bk) hm h) hd
theorem b5{E:JS}{pins:JU}{s:JW}{σ:St}{H:Hp}{x:Str}{u:Value}{pos:Pos}{Q:JS}(I:Inv X pins σ H s)(hg:Gl X x)(hm:X.mg x=none)(hv:bootBuiltins x=some u)(h:Q u s)
  (hn:autoParam (x≠"__name__") zz1._auto_1) (hd:autoParam ((x==("__debug__":Str))=false) zz1._auto_1):wpAny (model X.prog X.w) X.A (eval (.Name x pos) X.env) Q E s:=by
 obtain⟨mb,h1,h2⟩:=I.mod.blt;exact Calls.Name_function_global I.ok.kind hg (Calls.loadGlobal_builtin (by rw[I.ok.glob];exact I.mod.glob.keeps I.bk) hm (by rw[I.ok.blt];exact h1.keeps I.bk) ((h2 x hn).trans hv) h) hd
theorem bI{x:Str}{v:V}{u:Value}{pos:Pos}(hg:Gl X x)(hm:X.mg x=some u)(r:bq v u)(hd:autoParam ((x==("__debug__":Str))=false) zz1._auto_1):PE X (.Name x pos) (tC v):=
 λ_ _ _ H _ I h=>dW I hg hm ⟨v,H,I,r,h⟩ hd
theorem kJ{x:Str}{v:V}{u:Value}{pos:Pos}(hg:Gl X x)(hm:X.mg x=none)(hv:bootBuiltins x=some u)(r:bq v u)(hn:autoParam (x≠"__name__") zz1._auto_1)(hd:autoParam ((x==("__debug__":Str))=false) zz1._auto_1):PE X (.Name x pos) (tC v):=
 λ_ _ _ H _ I h=>b5 I hg hm hv ⟨v,H,I,r,h⟩ hn hd
variable {a b:Expr}{ta tb:TE}{pos:Pos}
variable {tA tB':TT}{bv:Kb}
noncomputable def DA(t u:TT):TT:=λσ H Q=>t σ H λc H1=>if c=true then u σ H1 Q else Q false H1
noncomputable def FH(t u:TT):TT:=λσ H Q=>t σ H λc H1=>if c=true then Q true H1 else u σ H1 Q
noncomputable def DR(t:TT):TT:=λσ H Q=>t σ H λc H1=>Q (!c) H1
theorem kO(ha:PT X a tA):PW X (.BoolOp .And [a] pos) tA:=by
 intro wh pins s σ H Q I h;refine isTrue_and (bM (ha pins s σ H Q I h) λc s1 e=>?_);cases c with
 |true=>exact isTrue_and_nil e
 |false=>exact e
theorem d9(ha:PT X a tA):PW X (.BoolOp .Or [a] pos) tA:=by
 intro wh pins s σ H Q I h;refine isTrue_or (bM (ha pins s σ H Q I h) λc s1 e=>?_);cases c with
 |false=>exact isTrue_or_nil e
 |true=>exact e
theorem jJ(ha:PT X a tA)(hb:PW X (.BoolOp .And (b::bv) pos) tB'):PW X (.BoolOp .And (a::b::bv) pos) (DA tA tB'):=by
 intro wh pins s σ H Q I h;refine isTrue_and (bM (ha pins s σ H _ I h) λc s1 ⟨H1,I1,q1⟩=>?_);cases c with
 |true=>exact hb wh pins s1 σ H1 Q I1 q1
 |false=>exact⟨H1,I1,q1⟩
theorem fU(ha:PT X a tA)(hb:PW X (.BoolOp .Or (b::bv) pos) tB'):PW X (.BoolOp .Or (a::b::bv) pos) (FH tA tB'):=by
 intro wh pins s σ H Q I h;refine isTrue_or (bM (ha pins s σ H _ I h) λc s1 ⟨H1,I1,q1⟩=>?_);cases c with
 |true=>exact⟨H1,I1,q1⟩
 |false=>exact hb wh pins s1 σ H1 Q I1 q1
theorem gG(ha:PT X a tA):PT X (.UnaryOp .Not a pos) (DR tA):=by
 intro pins s σ H Q I h;exact isTrue_not (ha pins s σ H (λc H1=>Q (!c) H1) I h)
noncomputable def Bf(ta tb:TE):TE:=λσ H Q=>ta σ H λx H1=>∃c,x=.bl c/\if c=true then tb σ H1 Q else Q (.bl false) H1
noncomputable def AI(ta:TE):TE:=λσ H Q=>ta σ H λx H1=>∃c,x=.bl c/\Q (.bl (!c)) H1
theorem jE{op}{t:TE}(h:PE X a t):PE X (.BoolOp op [a] pos) t:=λpins s σ H Q I hw=>BoolOp_one (h pins s σ H Q I hw)
theorem gi(ha:PE X a ta)(hb:PE X (.BoolOp .And (b::bv) pos) tb):PE X (.BoolOp .And (a::b::bv) pos) (Bf ta tb):=by
 intro pins s σ H Q I h;refine BoolOp_and (bM (ha pins s σ H _ I h) λv s1 ⟨x,H1,I1,r1,q1⟩=>?_);obtain⟨c,rfl,q1⟩:=q1;cases r1;refine wpAny_truthy_bool ?_;cases c with
 |true=>exact hb pins s1 σ H1 Q I1 q1
 |false=>exact⟨.bl false,H1,I1,rfl,q1⟩
theorem Do(ha:PE X a ta):PE X (.UnaryOp .Not a pos) (AI ta):=by
 intro pins s σ H Q I h;refine UnaryOp_ (bM (ha pins s σ H _ I h) λv s1 ⟨x,H1,I1,r1,q1⟩=>?_);obtain⟨c,rfl,q1⟩:=q1;cases r1;exact not_of (wpAny_truthy_bool ⟨.bl (!c),H1,I1,rfl,q1⟩)
noncomputable def FP(t:TT)(ta tb:TE):TE:=λσ H Q=>t σ H λc H1=>if c=true then ta σ H1 Q else tb σ H1 Q
theorem tH{c:Expr}(hc:PT X c tA)(ha:PE X a ta)(hb:PE X b tb):PE X (.IfExp c a b pos) (FP tA ta tb):=by
 intro pins s σ H Q I h;refine wpAny_IfExp (bM (hc pins s σ H _ I h) λd s1 ⟨H1,I1,q1⟩=>?_);cases d with
 |true=>exact ha pins s1 σ H1 Q I1 q1
 |false=>exact hb pins s1 σ H1 Q I1 q1
end
def aW(K:JT)(H:Hp)(a:Addr)(xs:List V):Prop:=
 Rd H a (.lst xs) \/
  ∃(o:Obj) (its:Array Value) (n:Nat),K.lookup a=some o/\o.cls=.type "list"/\o.dict=none/\o.data=.seq its n/\its.size<=sizeLine/\aY xs its.toList
def bc(K:JT)(H:Hp)(a:Addr)(xs:List V):Prop:=
 Rd H a (.tup xs) \/
  ∃(o:Obj) (its:Array Value) (n:Nat),K.lookup a=some o/\o.cls=.type "tuple"/\o.data=.seq its n/\its.size<=sizeLine/\aY xs its.toList
noncomputable def E_:Value->Option V
 | .none=>some .non
 | .bool b=>some (.bl b)
 | .int i _=>some (.int i)
 | .str x _=>some (.str x)
 | .bytes b _=>some (.byt b)
 | .float b _=>some (.flt b)
 | .ref a=>some (.ref a)
 | .type n=>some (.ty n)
 |_=>none
theorem bq.abs{x:V}{u:Value}(r:bq x u):E_ u=some x:=by
 cases x with
 |non=>cases r;rfl
 |bl _=>cases r;rfl
 |int _=>obtain⟨t,rfl⟩:=r;rfl
 |str _=>obtain⟨t,rfl⟩:=r;rfl
 |byt _=>obtain⟨t,rfl⟩:=r;rfl
 |flt _=>obtain⟨t,rfl⟩:=r;rfl
 |ref _=>cases r;rfl
 |ty _=>cases r;rfl
theorem bq.inj{x y:V}{u:Value}(r:bq x u)(q:bq y u):x=y:=Option.some.inj (r.abs.symm.trans q.abs)
theorem aY.inj:∀{xs ys:List V} {us:JX},aY xs us->aY ys us->xs=ys
 |_,_,_,.nil,.nil=>rfl
 |_,_,_,.cons r t,.cons r' t'=>by rw[r.inj r',aY.inj t t']
section
variable {X:Cx}{pins:JU}{σ:St}{H:Hp}{s:JW}{a:Addr}{xs ys:List V}
theorem aW.of{K:JT}(h:H a=some (.lst xs)):aW K H a xs:=.inl (.inl h)
theorem bc.of{K:JT}(h:H a=some (.tup xs)):bc K H a xs:=.inl (.inl h)
theorem Inv.list(I:Inv X pins σ H s)(h:aW X.K H a xs):∃its:List Value,aY xs its/\PlainL s.heap a its.toArray/\xs.length<=sizeLine:=by
 rcases h with h | ⟨o,its,n,hk,hc,hd,hs,hz,r⟩
 ·obtain⟨z,its,n,r,e⟩:=h.ok I.hok
  exact⟨its,r,⟨_,n,e,rfl,rfl,rfl⟩,z⟩
 ·refine⟨its.toList,r,⟨o,n,I.kIn a o hk,hc,hd,by simpa using hs⟩,?_⟩
  have e:=r.length;simp only[Array.length_toList]at e;omega
theorem Inv.tuple(I:Inv X pins σ H s)(h:bc X.K H a xs):∃its:List Value,aY xs its/\IsTup s.heap a its.toArray/\xs.length<=sizeLine:=by
 rcases h with h | ⟨o,its,n,hk,hc,hs,hz,r⟩
 ·obtain⟨z,its,r,p⟩:=h.ok I.hok
  exact⟨its,r,p,z⟩
 ·refine⟨its.toList,r,⟨o,I.kIn a o hk,hc,n,by simpa using hs⟩,?_⟩
  have e:=r.length;simp only[Array.length_toList]at e;omega
theorem Inv.list_inj(I:Inv X pins σ H s)(h:aW X.K H a xs)(h':aW X.K H a ys):xs=ys:=by
 obtain⟨its,r,⟨o,n,e,_,_,d⟩,_⟩:=I.list h;obtain⟨its',r',⟨o',n',e',_,_,d'⟩,_⟩:=I.list h';rw[e]at e';cases e'
 rw[d]at d'
 injection d' with d1 _
 have:its=its':=by simpa using congrArg Array.toList d1
 subst this;exact r.inj r'
theorem Inv.tuple_inj(I:Inv X pins σ H s)(h:bc X.K H a xs)(h':bc X.K H a ys):xs=ys:=by
 obtain⟨its,r,⟨o,e,_,n,d⟩,_⟩:=I.tuple h;obtain⟨its',r',⟨o',e',_,n',d'⟩,_⟩:=I.tuple h';rw[e]at e';cases e'
 rw[d]at d'
 injection d' with d1 _
 have:its=its':=by simpa using congrArg Array.toList d1
 subst this;exact r.inj r'
end
noncomputable abbrev Cx.wish(X:Cx)(E:JS):Cx:={X with xe:=E}
noncomputable abbrev Cx.nox(X:Cx):Cx:=X.wish λ_ _=>False
theorem Cx.Ok.wish{X:Cx}(ok:X.Ok)(E:JS):(X.wish E).Ok:=
 ⟨ok.mod,ok.kind,ok.glob,ok.blt,ok.above,ok.inj,ok.has,ok.cab,ok.hd,ok.frames,ok.stk,ok.exf,ok.bs,ok.bsz,ok.noex,ok.exfs,ok.funs,ok.frf⟩
theorem Cx.Ok.unwish{X:Cx}{E:JS}(ok:(X.wish E).Ok):X.Ok:=
 ⟨ok.mod,ok.kind,ok.glob,ok.blt,ok.above,ok.inj,ok.has,ok.cab,ok.hd,ok.frames,ok.stk,ok.exf,ok.bs,ok.bsz,ok.noex,ok.exfs,ok.funs,ok.frf⟩
section
variable {X:Cx}{pins:JU}{σ:St}{H:Hp}{s:JW}{E:JS}
theorem Inv.wish(I:Inv X pins σ H s)(E:JS):Inv (X.wish E) pins σ H s:=⟨I.ok.wish E,I.os,I.bare,I.base,I.loc,I.cell,I.free,I.freeC,I.pin,I.hok,I.len⟩
theorem Inv.unwish(I:Inv (X.wish E) pins σ H s):Inv X pins σ H s:=⟨I.ok.unwish,I.os,I.bare,I.base,I.loc,I.cell,I.free,I.freeC,I.pin,I.hok,I.len⟩
theorem SP.unwish{D:gY}{f:Flow}{s':JW}(h:SP (X.wish E) pins D f s'):SP X pins D f s':=by
 cases f with
 |next=>obtain⟨σ',H',I,q⟩:=h;exact⟨σ',H',I.unwish,q⟩
 |brk=>obtain⟨σ',H',I,q⟩:=h;exact⟨σ',H',I.unwish,q⟩
 |cont=>obtain⟨σ',H',I,q⟩:=h;exact⟨σ',H',I.unwish,q⟩
 |ret u=>obtain⟨v,σ',H',I,r,q⟩:=h;exact⟨v,σ',H',I.unwish,r,q⟩
theorem o9.nox{st:List Stmt}{t:TS}(h:o9 X.nox st t):o9 X st t:=λpins s σ H D I hw=>
 wpAny_mono (h pins s σ H D (I.wish _) hw) (λ_ _ q=>q.unwish) λ_ _ z=>False.elim z
end
section
variable {X:Cx}{st:Stmt}{bv:List Stmt}{t u:TS}{e:Expr}{te:TE}{pos:Pos}
noncomputable def zF:TS:=λD σ H=>D.nx σ H
noncomputable def vT(t u:TS):TS:=λD σ H=>t {D with nx:=u D} σ H
theorem aL:o9 X [] zF:=λ_ _ σ H _ I h=>wpAny_execs_nil ⟨σ,H,I,h⟩
theorem ag(h1:PS X st t)(h2:o9 X bv u):o9 X (st::bv) (vT t u):=by
 intro pins s σ H D I h;refine wpAny_execs_cons (bM (h1 pins s σ H {D with nx:=u D} I h) λf s1 q=>?_);cases f with
 |next=>
  obtain⟨σ',H',I',q⟩:=q;exact h2 pins s1 σ' H' D I' q
 |ret v=>exact q
 |brk=>exact q
 |cont=>exact q
theorem ah(h1:PS X st t):o9 X [st] t:=by
 intro pins s σ H D I h;refine wpAny_execs_cons (bM (h1 pins s σ H D I h) λf s1 q=>?_);cases f with
 |next=>exact wpAny_execs_nil q
 |ret v=>exact q
 |brk=>exact q
 |cont=>exact q
theorem Inv.quiet{pins:JU}{σ:St}{H:Hp}{s:JW}(I:Inv X pins σ H s):interactive X.env=false:=by simp[interactive,I.ok.kind]
noncomputable def Ah(te:TE):TS:=λD σ H=>te σ H λ_ H1=>D.nx σ H1
theorem bJ(he:PE X e te)(hs:autoParam (swapsWith e none pos.line X.env=pure false) zz0._auto_1):PS X (.Expr e pos) (Ah te):=by
 intro pins s σ H D I h;exact wpAny_Expr_any (bM (he pins s σ H _ I h) λv s1 ⟨x,H1,I1,r1,q1⟩=>⟨σ,H1,I1,q1⟩) I.quiet hs
noncomputable def Dg(te:TE):TS:=λD σ H=>te σ H D.rt
theorem aG(he:PE X e te):PS X (.Return (some e) pos) (Dg te):=by
 intro pins s σ H D I h;exact wpAny_Return_some (bM (he pins s σ H _ I h) λv s1 ⟨x,H1,I1,r1,q1⟩=>⟨x,σ,H1,I1,r1,q1⟩)
noncomputable def Aw(c:TT)(t u:TS):TS:=λD σ H=>c σ H λb H1=>if b=true then t D σ H1 else u D σ H1
theorem bd{c:Expr}{a b:List Stmt}{tc:TT}(hc:PT X c tc)(ha:o9 X a t)(hb:o9 X b u):PS X (.If c a b pos) (Aw tc t u):=by
 intro pins s σ H D I h;refine wpAny_If (bM (hc pins s σ H _ I h) λd s1 ⟨H1,I1,q1⟩=>?_);cases d with
 |true=>exact ha pins s1 σ H1 D I1 q1
 |false=>exact hb pins s1 σ H1 D I1 q1
end
noncomputable abbrev TG:=V->St->Hp->(St->Hp->Prop)->Prop
noncomputable abbrev BH:=List V->St->Hp->(St->Hp->Prop)->Prop
def PG(X:Cx)(target:Expr)(t:TG):Prop:=
 ∀(pins:JU) (s:JW) (σ:St) (H:Hp) (v:V) (u:Value) (Q:St->Hp->Prop),Inv X pins σ H s->bq v u->t v σ H Q ->
  wpAny (model X.prog X.w) X.A (assign target X.env u) (λ_ s'=>∃σ' H',Inv X pins σ' H' s'/\Q σ' H') X.xe s
def Em(X:Cx)(ts:Kb)(t:BH):Prop:=
 ∀(pins:JU) (s:JW) (σ:St) (H:Hp) (vs:List V) (us:JX) (Q:St->Hp->Prop),Inv X pins σ H s->aY vs us->t vs σ H Q ->
  wpAny (model X.prog X.w) X.A (assignInOrder ((assignEach ts X.env).map (·.2)) us) (λ_ s'=>∃σ' H',Inv X pins σ' H' s'/\Q σ' H') X.xe s
noncomputable abbrev D1:=V->V->V->Hp->(Hp->Prop)->Prop
def EJ(X:Cx)(t:D1):Prop:=
 ∀(pins:JU) (s:JW) (σ:St) (H:Hp) (o i v:V) (ov iv u:Value) (Q:Hp->Prop),Inv X pins σ H s->bq o ov->bq i iv->bq v u->t o i v H Q ->
  wpAny (model X.prog X.w) X.A (setItem ov iv u) (λ_ s'=>∃H',Inv X pins σ H' s'/\Q H') X.xe s
section
variable {X:Cx}{pos:Pos}
noncomputable def gQ(i:Nat):TG:=λv σ H Q=>Q (σ.set i (some v)) H
theorem aF{i:Nat}{x:Str}(hN:X.N.Nodup)(hi:X.N[i]?=some x)(hx:Loc X.env.scope x)(hf:autoParam (X.fn x=true\/X.env.scope.names.lookup x=some .local) zz3._auto_1):PG X (.Name x pos) (gQ i):=by
 intro pins s σ H v u Q I r h;exact wpAny_assign_Name (ku I hN hi hx r (λs' I'=>⟨_,H,I',h⟩) hf)
noncomputable def Cm:BH:=λvs σ H Q=>vs=[]/\Q σ H
noncomputable def w9(t:TG)(u:BH):BH:=λvs σ H Q=>∃v r,vs=v::r/\t v σ H λσ' H'=>u r σ' H' Q
theorem cM:Em X [] Cm:=by
 intro pins s σ H vs us Q I r h;obtain⟨e,h⟩:=h;subst e;cases r;exact assignInOrder_nil ⟨σ,H,I,h⟩
theorem a_{e:Expr}{es:Kb}{t:TG}{u:BH}(h1:PG X e t)(h2:Em X es u)
  (hs:autoParam ((assignEach (e::es) X.env).map (·.2)=assign e X.env::(assignEach es X.env).map (·.2)) zz0._auto_1):Em X (e::es) (w9 t u):=by
 intro pins s σ H vs us Q I r h;obtain⟨v,vr,e1,h⟩:=h;subst e1;cases r with
 |cons r rr=>
  rw[hs];refine assignInOrder_cons (bM (h1 pins s σ H _ _ _ I r h) λ_ s1 ⟨σ1,H1,I1,q1⟩=>?_);exact h2 pins s1 σ1 H1 _ _ Q I1 rr q1
noncomputable def zG(K:JT)(n:Nat)(t:BH):TG:=λv σ H Q=>∃a xs,v=.ref a/\bc K H a xs/\xs.length=n/\t xs σ H Q
theorem eF{es:Kb}{k:Nat}{t:BH}{n:Nat}(hc:X.calm=true)(h:Em X es t)
  (hn:autoParam ((assignEach es X.env).length=n) zz0._auto_1) (hst:autoParam ((assignEach es X.env).findIdx? (·.1)=none) zz0._auto_1):PG X (.Tuple es k pos) (zG X.K n t):=by
 intro pins s σ H v u Q I r hw;obtain⟨a,xs,e1,hq,hl,hw⟩:=hw;subst e1;cases r;obtain⟨its,rv,ht,hz⟩:=I.tuple hq;refine assign_Tuple_tuple (I.ok.hd hc) ht (by simp[hn,<- hl,rv.length]) hst λh' hx=>?_;have I1:Inv X pins σ H {s with heap:=h' }:=I.kept (t':=s.toks) λb o e=>hx b o (Jk (Jr e)) e;exact h pins _ σ H xs _ Q I1 (by simpa using rv) hw
noncomputable def D_(to ti:TE)(t:D1):TG:=λv σ H Q=>to σ H λo H1=>ti σ H1 λi H2=>t o i v H2 λH3=>Q σ H3
theorem D4{o i:Expr}{to ti:TE}{t:D1}(ho:PE X o to)(hi:PE X i ti)(hs:EJ X t)
  (ha:autoParam (∀v,assign (.Subscript o i pos) X.env v=(do
   let ov <- holding [v] (eval o X.env)
   let iv <- holding [v,ov] (eval i X.env)
   standAt pos
   holding [v,ov,iv] (setItem ov iv v)
   release [v,ov,iv] [])) zz4._auto_1):PG X (.Subscript o i pos) (D_ to ti t):=by
 intro pins s σ H v u Q I r h;rw[ha];refine wpAny_bind (wpAny_holding (bM (ho pins s σ H _ I h) λov s1 ⟨x,H1,I1,r1,q1⟩=>?_));refine wpAny_bind (wpAny_holding (bM (hi pins s1 σ H1 _ I1 q1) λiv s2 ⟨y,H2,I2,r2,q2⟩=>?_));refine wpAny_bind (wpAny_standAt (wpAny_bind (wpAny_holding (bM (hs pins s2 σ H2 x y v ov iv u _ I2 r1 r2 r q2) λ_ s3 ⟨H3,I3,q3⟩=>?_))));exact wpAny_release ⟨σ,H3,I3,q3⟩
noncomputable def v1(te:TE)(g:TG):TS:=λD σ H=>te σ H λx H1=>g x σ H1 D.nx
theorem iD{tg e:Expr}{te:TE}{g:TG}(he:PE X e te)(hg:PG X tg g)(hs:autoParam (swapsWithSole [tg] e pos.line X.env=pure false) zz0._auto_1)(hw:autoParam (swappedStores [tg] e X.env=pure none) zz0._auto_1)
  (h1:autoParam ((assignEach [tg] X.env).map (·.2)=[assign tg X.env]) zz0._auto_1):PS X (.Assign [tg] e pos) (v1 te g):=by
 intro pins s σ H D I h;refine wpAny_Assign_stores (bM (he pins s σ H _ I h) λv s1 ⟨x,H1,I1,r1,q1⟩=>?_) hs hw;rw[h1];exact bM (hg pins s1 σ H1 x v _ I1 r1 q1) λ_ s2 q=>q
theorem aM{i:Nat}{x:Str}{e:Expr}{te:TE}{pos':Pos}(hN:X.N.Nodup)(hi:X.N[i]?=some x)(hx:Loc X.env.scope x)(he:PE X e te)(hs:autoParam (swapsWith e (some (.Name x pos')) pos.line X.env=pure false) zz0._auto_1)(hf:autoParam (X.fn x=true\/X.env.scope.names.lookup x=some .local) zz3._auto_1) :
  PS X (.Assign [.Name x pos'] e pos) (v1 te (gQ i)):=by
 intro pins s σ H D I h;refine wpAny_Assign_Name (bM (he pins s σ H _ I h) λv s1 ⟨y,H1,I1,r1,q1⟩=>?_) hs;exact ku I1 hN hi hx r1 (λs2 I2=>⟨_,H1,I2,q1⟩) hf
end
section
variable {X:Cx}{pos:Pos}
noncomputable def vE(c:TT)(tb:TS):TS:=λD σ H=>∃W:Nat->St->Hp->Prop,(∃m,W m σ H)/\∀m σ H,W m σ H ->
 c σ H λb H1=>if b=true then ∃N:St->Hp->Prop,(∀σ' H',N σ' H'->∃m',m'<m/\W m' σ' H')/\tb {D with nx:=N,ct:=N,bk:=D.nx} σ H1 else D.nx σ H1
theorem uk{c:Expr}{body:List Stmt}{tc:TT}{tb:TS}(hp:PassesOwn (model X.prog X.w) X.A X.env X.xe)(hc:PT X c tc)(hb:o9 X body tb):PS X (.While c body [] pos) (vE tc tb):=by
 intro pins s σ H D I h;obtain⟨W,⟨m0,w0⟩,turn⟩:=h;refine wpAny_While (codeAny_whileLoop (λn s'=>∃σ' H',Inv X pins σ' H' s'/\W n σ' H') ?_ m0 ⟨σ,H,I,w0⟩);rintro n s1 ⟨σ1,H1,I1,w1⟩;refine wpAny_passesOwn hp (bM (hc pins s1 σ1 H1 _ I1 (turn n σ1 H1 w1)) λb s2 ⟨H2,I2,q2⟩=>?_);cases b with
 |true=>
  obtain⟨N,hN,q2⟩:=q2;rw[if_pos rfl];refine wpAny_passesOwn hp (bM (hb pins s2 σ1 H2 _ I2 q2) λf s3 q3=>?_);cases f with
  |next=>
   obtain⟨σ3,H3,I3,n3⟩:=q3;obtain⟨m',hm,w3⟩:=hN σ3 H3 n3;exact⟨m',hm,σ3,H3,I3,w3⟩
  |cont=>
   obtain⟨σ3,H3,I3,n3⟩:=q3;obtain⟨m',hm,w3⟩:=hN σ3 H3 n3;exact⟨m',hm,σ3,H3,I3,w3⟩
  |brk=>exact q3
  |ret v=>exact q3
 |false=>
  rw[if_neg Jq];exact wpAny_execs_nil ⟨σ1,H2,I2,q2⟩
end
structure It where
 go:Nat->Hp->Prop
 yld:Nat->Hp->V->Hp->Prop
 stop:Nat->Hp->Prop
def mx(X:Cx)(pins:JU)(H:Hp)(b:Addr):Prop:=
 H b=none/\b≠X.env.locals/\b∉X.fs/\(b∈X.ex\/X.s₀.heap.objs.size<=b)/\(∀x c,X.env.cells.lookup x=some c->c≠b)/\∀p∈X.pn++pins,p.1≠b
theorem Inv.fpOk{X:Cx}{pins:JU}{σ:St}{H H':Hp}{s:JW}{b:Addr}(I:Inv X pins σ H s)(hb:s.heap.objs.size<=b)(hn:H' b=none):mx X pins H' b:=by
 refine⟨hn,Nat.ne_of_gt (Jj I.lt hb),I.nofs hb,.inr (Jw I.sz hb),λx c e z=>?_,λp hp z=>?_⟩
 ·obtain⟨v,q⟩:=I.cell x c e
  exact absurd (Jj q.lt (by rw[z];exact hb)) (Jx _)
 ·exact absurd (Jj (Jr (I.pin p hp).1) (by rw[z];exact hb)) (Jx _)
structure nI(P:J3)(w:J9)(K:JT)(tg:Expr)(J:It)(fp:JY)(it:Addr)(tn:Nat->Heap->Prop):Prop where
 mem:it∈fp
 obj:∀i h,tn i h->∀b∈fp,∃o,h.get? b=some o/\∀v,o.data≠.cell v
 keep:∀i h h',tn i h->(∀b∈fp,∀o,h.get? b=some o->h'.get? b=some o)->tn i h'
 item:∀(X:Cx),X.prog=P->X.w=w->X.K=K->X.calm=true->∀(i:Nat) (pins:JU) (s:JW) (σ:St) (H:Hp) (E:JS),Inv X pins σ H s->(∀b∈fp,mx X pins H b)->tn i s.heap->J.go i H ->
  wpAny (model P w) X.A (pyNext (.ref it)) (λr s1=>∃u,r=some u /\
   wpAny (model P w) X.A (letOwnedTupleGo tg (.ref it) u) (λ_ s2=>∃x H',Inv X pins σ H' s2/\bq x u/\J.yld i H x H'/\tn (i+1) s2.heap/\∀b∈fp,H' b=none) E s1) E s
 done:∀(X:Cx),X.prog=P->X.w=w->X.K=K->X.calm=true->∀(i:Nat) (pins:JU) (s:JW) (σ:St) (H:Hp) (E:JS),Inv X pins σ H s->(∀b∈fp,mx X pins H b)->tn i s.heap->J.stop i H ->
  wpAny (model P w) X.A (pyNext (.ref it)) (λr s1=>r=none/\Inv X pins σ H s1) E s
 self:∀(A:J8) (i:Nat) (s:JW) (Q:JS) (E:JS),tn i s.heap->Q (.ref it) s->wpAny (model P w) A (pyIter (.ref it)) Q E s
noncomputable abbrev TI:=St->Hp->(It->Hp->Prop)->Prop
def Fp(X:Cx)(pins:JU)(σ:St)(tg:Expr)(R:It->Hp->Prop)(itv:Value)(s2:JW):Prop:=
 ∃(it:Addr) (fp:JY) (tn:Nat->Heap->Prop) (J:It) (H':Hp),itv=.ref it/\Inv X pins σ H' s2/\nI X.prog X.w X.K tg J fp it tn/\tn 0 s2.heap/\(∀b∈fp,mx X pins H' b)/\R J H'
def PI(X:Cx)(tg iter:Expr)(wi:TI):Prop:=
 ∀(pins:JU) (s:JW) (σ:St) (H:Hp) (R:It->Hp->Prop),Inv X pins σ H s->wi σ H R ->
  wpAny (model X.prog X.w) X.A (eval iter X.env) (λv s1=>wpAny (model X.prog X.w) X.A (pyIter v) (Fp X pins σ tg R) X.xe s1) X.xe s
theorem pZ{M:Model}{A:J8}{E:JS}{s:JW}{tg:Expr}{it:Addr}{u:Value}{o:Obj}{n:String}{vs:Array Value}{Q:Unit->Shared->Prop}(ho:s.heap.get? it=some o)(hc:o.cls=.type n)(hd:o.data=.fields vs)
  (hn:["enumerate","zip","dict_itemiterator","dict_reverseitemiterator","odict_iterator","itertools.zip_longest","itertools.pairwise"].contains n=false) (hQ:Q () s):wpAny M A (letOwnedTupleGo tg (.ref it) u) Q E s:=by
 unfold letOwnedTupleGo;cases tg<;>first
  |exact wpAny_pure hQ
  | (cases u<;>first
    |exact wpAny_pure hQ
    | (refine wpAny_bind (wpAny_load ho ?_)
       rw[hc,hd];show wpAny M A (if(["enumerate","zip","dict_itemiterator","dict_reverseitemiterator","odict_iterator","itertools.zip_longest","itertools.pairwise"].contains n&&vs[0]?==some (rawInt _))=true then _ else _) Q E s;rw[if_neg (by intro h;rw[hn,Bool.false_and]at h;cases h)];exact wpAny_pure hQ))
noncomputable def AD(K:JT)(a:Addr):It:=
 ⟨λi H=>∃xs x,aW K H a xs/\xs[i]?=some x,λi H x H'=>H'=H/\∀xs,aW K H a xs->xs[i]?=some x,λi H=>∃xs,aW K H a xs/\xs.length<=i⟩
noncomputable def C9(K:JT)(a:Addr):It:=
 ⟨λi H=>∃xs x,bc K H a xs/\xs[i]?=some x,λi H x H'=>H'=H/\∀xs,bc K H a xs->xs[i]?=some x,λi H=>∃xs,bc K H a xs/\xs.length<=i⟩
noncomputable def ze(lo:Int)(n:Nat):It:=⟨λi _=>i<n,λi H x H'=>H'=H/\x=.int (lo+i),λi _=>n<=i⟩
theorem yK{P:J3}{w:J9}{K:JT}{tg:Expr}(a it:Addr):nI P w K tg (AD K a) [it] it (λi h=>h.IsListIter it a i) where
 mem:=by simp
 obj:=λi h st b hb=>by
  have e:b=it:=by simpa using hb
  subst e;obtain⟨o,e,c,d⟩:=st;exact⟨o,e,λv z=>by rw[d]at z;cases z⟩
 keep:=λi h h' st k=>st.at λo e=>k it (by simp) o e
 item:=by
  intro X hP hw hK hc i pins s σ H E I hf st hg;subst hP hw hK;obtain⟨xs,x,hq,hx⟩:=hg;obtain⟨its,rv,p,hz⟩:=I.list hq;obtain⟨u,hu,ru⟩:=rv.get hx;obtain⟨f0,f1,f2,f3,f4,f5⟩:=hf it (by simp);refine wpAny_pyNext_list_item st p.isList (x:=u) (by simpa using hu) λh' st' sb=>?_;have I1:Inv X pins σ H {s with heap:=h' }:=I.turned (t':=s.toks) (λb o hb e=>(sb.2 b hb).trans e) f0 f1 f3 f4 f5;obtain⟨o,e,c,d⟩:=id st';exact⟨u,rfl,pZ (s:={s with heap:=h' }) e c d nofun ⟨x,H,I1,ru,⟨rfl,λys hy=>by rw[I.list_inj hy hq];exact hx⟩,st',λb hb=>(hf b hb).1⟩⟩
 done:=by
  intro X hP hw hK hc i pins s σ H E I hf st hg;subst hP hw hK;obtain⟨xs,hq,hx⟩:=hg;obtain⟨its,rv,p,hz⟩:=I.list hq;obtain⟨f0,f1,f2,f3,f4,f5⟩:=hf it (by simp);have hl:=rv.length;exact wpAny_pyNext_list_end (I.ok.hd hc) st p.isList (by simp;omega) λh' eb=>⟨rfl,I.turned (t':=s.toks) (λb o hb e=>eb b o hb e) f0 f1 f3 f4 f5⟩
 self:=λ_ _ _ _ _ st h=>wpAny_pyIter_listiter st h
theorem wz{P:J3}{w:J9}{K:JT}{tg:Expr}(a it:Addr):nI P w K tg (C9 K a) [it] it (λi h=>h.IsTupleIter it a i) where
 mem:=by simp
 obj:=λi h st b hb=>by
  have e:b=it:=by simpa using hb
  subst e;obtain⟨o,e,c,d⟩:=st;exact⟨o,e,λv z=>by rw[d]at z;cases z⟩
 keep:=λi h h' st k=>st.at λo e=>k it (by simp) o e
 item:=by
  intro X hP hw hK hc i pins s σ H E I hf st hg;subst hP hw hK;obtain⟨xs,x,hq,hx⟩:=hg;obtain⟨its,rv,p,hz⟩:=I.tuple hq;obtain⟨u,hu,ru⟩:=rv.get hx;obtain⟨f0,f1,f2,f3,f4,f5⟩:=hf it (by simp);refine wpAny_pyNext_tuple_item st (show s.heap.IsTuple a its.toArray from p) (x:=u) (by simpa using hu) λh' st' sb=>?_;have I1:Inv X pins σ H {s with heap:=h' }:=I.turned (t':=s.toks) (λb o hb e=>(sb.2 b hb).trans e) f0 f1 f3 f4 f5;obtain⟨o,e,c,d⟩:=id st';exact⟨u,rfl,pZ (s:={s with heap:=h' }) e c d nofun ⟨x,H,I1,ru,⟨rfl,λys hy=>by rw[I.tuple_inj hy hq];exact hx⟩,st',λb hb=>(hf b hb).1⟩⟩
 done:=by
  intro X hP hw hK hc i pins s σ H E I hf st hg;subst hP hw hK;obtain⟨xs,hq,hx⟩:=hg;obtain⟨its,rv,p,hz⟩:=I.tuple hq;obtain⟨f0,f1,f2,f3,f4,f5⟩:=hf it (by simp);have hl:=rv.length;exact wpAny_pyNext_tuple_end (I.ok.hd hc) st (show s.heap.IsTuple a its.toArray from p) (by simp;omega) λh' eb=>⟨rfl,I.turned (t':=s.toks) (λb o hb e=>eb b o hb e) f0 f1 f3 f4 f5⟩
 self:=λ_ _ _ _ _ st h=>wpAny_pyIter_tupleiter st h
theorem v6{P:J3}{w:J9}{K:JT}{tg:Expr}(it:Addr)(lo:Int)(n:Nat):nI P w K tg (ze lo n) [it] it (λi h=>IsRangeIter h it (lo+(i:Nat)*1) ((n:Int)-(i:Nat)) 1) where
 mem:=by simp
 obj:=λi h st b hb=>by
  have e:b=it:=by simpa using hb
  subst e;exact⟨_,st,λv z=>by
   have z':Data.fields _=Data.cell v:=z;cases z'⟩
 keep:=λi h h' st k=>k it (by simp) _ st
 item:=by
  intro X hP hw hK hc i pins s σ H E I hf st hg;subst hP hw hK;obtain⟨f0,f1,f2,f3,f4,f5⟩:=hf it (by simp);have W:=Walks.range (prog:=X.prog) (w:=X.w) (I.ok.hd hc) it lo 1 n;refine W.item i s _ _ hg st λv h' tk hv st' kk=>?_;obtain⟨t,rfl⟩:=hv;have I1:Inv X pins σ H {s with heap:=h',toks:=tk}:=I.turned (λb o hb e=>kk b o (by simpa using hb) e) f0 f1 f3 f4 f5;refine⟨_,rfl,pZ (s:={s with heap:=h',toks:=tk}) (n:="range_iterator") st' rfl rfl nofun ⟨.int (lo+i),H,I1,⟨t,?_⟩,⟨rfl,rfl⟩,st',λb hb=>(hf b hb).1⟩⟩;rw[Int.mul_one]
 done:=by
  intro X hP hw hK hc i pins s σ H E I hf st hg;subst hP hw hK;obtain⟨f0,f1,f2,f3,f4,f5⟩:=hf it (by simp);exact wpAny_pyNext_range_end (I.ok.hd hc) st (by have:n<=i:=hg;omega) λh' eb=>⟨rfl,I.turned (t':=s.toks) (λb o hb e=>eb b o hb e) f0 f1 f3 f4 f5⟩
 self:=λ_ _ _ _ _ st h=>wpAny_pyIter_rangeiter st h
section
variable {X:Cx}{tg:Expr}
noncomputable def zJ(K:JT)(tl:TE):TI:=λσ H R=>tl σ H λx H1=>∃a,x=.ref a/\(∃xs,aW K H1 a xs)/\R (AD K a) H1
noncomputable def D5(K:JT)(tl:TE):TI:=λσ H R=>tl σ H λx H1=>∃a,x=.ref a/\(∃xs,bc K H1 a xs)/\R (C9 K a) H1
theorem c8{l:Expr}{tl:TE}(hl:PE X l tl):PI X tg l (zJ X.K tl):=by
 intro pins s σ H R I h;refine bM (hl pins s σ H _ I h) λv s1 ⟨x,H1,I1,r1,q1⟩=>?_;obtain⟨a,e,⟨xs,hq⟩,q⟩:=q1;subst e;cases r1;obtain⟨its,rv,p,hz⟩:=I1.list hq;refine wpAny_pyIter_list p.isList ?_;refine⟨s1.heap.objs.size,[s1.heap.objs.size],_,_,H1,rfl,I1.kept (t':=s1.toks) λb o e=>IS _ e,yK a _,⟨_,IY _ rfl,rfl,rfl⟩,λb hb=>?_,q⟩;have e:b=s1.heap.objs.size:=by simpa using hb
 subst e;exact I1.fpOk (Jo _) (I1.hok.fresh (Jo _))
theorem lN{l:Expr}{tl:TE}(hl:PE X l tl):PI X tg l (D5 X.K tl):=by
 intro pins s σ H R I h;refine bM (hl pins s σ H _ I h) λv s1 ⟨x,H1,I1,r1,q1⟩=>?_;obtain⟨a,e,⟨xs,hq⟩,q⟩:=q1;subst e;cases r1;obtain⟨its,rv,p,hz⟩:=I1.tuple hq;refine wpAny_pyIter_tuple (show s1.heap.IsTuple a its.toArray from p) ?_;refine⟨s1.heap.objs.size,[s1.heap.objs.size],_,_,H1,rfl,I1.kept (t':=s1.toks) λb o e=>IS _ e,wz a _,⟨_,IY _ rfl,rfl,rfl⟩,λb hb=>?_,q⟩;have e:b=s1.heap.objs.size:=by simpa using hb
 subst e;exact I1.fpOk (Jo _) (I1.hok.fresh (Jo _))
theorem ux{pins:JU}{σ:St}{H:Hp}{s:JW}{R:It->Hp->Prop}{E:JS}{lo hi:Int}{t u v:Tok}{tk:Nat}(I:Inv X pins σ H s)(h1:-(2 ^ 62)<=lo)(h2:lo<2 ^ 62)(h3:-(2 ^ 62)<=hi)(h4:hi<2 ^ 62)
  (q:R (ze lo (hi-lo).toNat) H):wpAny (model X.prog X.w) X.A (pyIter (.ref s.heap.objs.size)) (Fp X pins σ tg R) E {s with heap:=s.heap.push {cls:=.type "range",data:=.fields #[.int lo t,.int hi u,.int 1 v]},toks:=tk}:=by
 refine wpAny_pyIter_range (IsRange.new ..) (small_one h1 h2 h3 h4) ?_;have I1:Inv X pins σ H {s with heap:=s.heap.push {cls:=.type "range",data:=.fields #[.int lo t,.int hi u,.int 1 v]},toks:=tk}:=I.kept λb o e=>IS _ e;refine⟨(s.heap.push {cls:=.type "range",data:=.fields #[.int lo t,.int hi u,.int 1 v]}).objs.size,[(s.heap.push {cls:=.type "range",data:=.fields #[.int lo t,.int hi u,.int 1 v]}).objs.size],_,_,H,rfl,
  I1.kept (t':=tk) λb o e=>IS _ e,v6 _ lo (hi-lo).toNat,?_,λb hb=>?_,q⟩
 ·have e1:lo+((0:Nat):Int)*1=lo:=by simp
  have e2:(((hi-lo).toNat:Nat):Int)-((0:Nat):Int)=Builtin.Range.rangeSize lo hi 1:=by rw[rangeSize_one];split<;>omega
  show IsRangeIter _ _ (lo+((0:Nat):Int)*1) ((((hi-lo).toNat:Nat):Int)-((0:Nat):Int)) 1;rw[e1,e2];exact IY _ rfl
 ·have e:b=(s.heap.push {cls:=.type "range",data:=.fields #[.int lo t,.int hi u,.int 1 v]}).objs.size:=by simpa using hb
  subst e;exact I1.fpOk (Jo _) (I1.hok.fresh (Jo _))
noncomputable def Af(ta:TA):TI:=λσ H R=>ta σ H λvs H1=>∃j:Int,vs=[.int j]/\-(2 ^ 62)<=j/\j<2 ^ 62/\R (ze 0 j.toNat) H1
noncomputable def AS(ta:TA):TI:=λσ H R=>ta σ H λvs H1=>∃i j:Int,vs=[.int i,.int j]/\(-(2 ^ 62)<=i/\i<2 ^ 62/\-(2 ^ 62)<=j/\j<2 ^ 62)/\R (ze i (j-i).toNat) H1
theorem bW{a:Expr}{ta:TA}{p pos:Pos}(hg:Gl X "range")(hm:X.mg "range"=none)(ha:PA X [a] ta)(hs:autoParam (starEach [a] X.env=[(false,eval a X.env)]) zz0._auto_1):PI X tg (.Call (.Name "range" p) [a] [] pos) (Af ta):=by
 intro pins s σ H R I h;refine Call_ (b5 I hg hm boot_range (PyProof.Rows.callWith_type1 (bM (ha pos pins s σ H _ I h) λus s1 ⟨vs,H1,I1,r1,q1⟩=>?_) hs rfl));obtain⟨j,e,q1,q2,q⟩:=q1;subst e;cases r1 with
 |cons r rr=>
  cases rr;obtain⟨t,rfl⟩:=r;exact call_range_1 (ux I1 ⋯ ⋯ q1 q2 (by simpa using q))
theorem xJ{a b:Expr}{ta:TA}{p pos:Pos}(hg:Gl X "range")(hm:X.mg "range"=none)(ha:PA X [a,b] ta)(hs:autoParam (starEach [a,b] X.env=[(false,eval a X.env),(false,eval b X.env)]) zz0._auto_1)(hs2:autoParam (starEach [b] X.env=[(false,eval b X.env)]) zz0._auto_1) :
  PI X tg (.Call (.Name "range" p) [a,b] [] pos) (AS ta):=by
 intro pins s σ H R I h;refine Call_ (b5 I hg hm boot_range (PyProof.Rows.callWith_type1 (bM (ha pos pins s σ H _ I h) λus s1 ⟨vs,H1,I1,r1,q1⟩=>?_) (by rw[hs,hs2]) (by rw[hs2];rfl)));obtain⟨i,j,e,⟨q1,q2,q3,q4⟩,q⟩:=q1;subst e;cases r1 with
 |cons r rr=>
  cases rr with
  |cons r' rr=>
   cases rr;obtain⟨t,rfl⟩:=r;obtain⟨t',rfl⟩:=r';exact call_range_2 (ux I1 q1 q2 q3 q4 q)
noncomputable def Ff(wi:TI)(g:TG)(tb:TS):TS:=λD σ H=>wi σ H λJ H1=>∃W:Nat->Nat->St->Hp->Prop,(∃m,W 0 m σ H1)/\∀i m σ H,W i m σ H ->
 (J.stop i H/\D.nx σ H)\/(J.go i H/\∃N:St->Hp->Prop,(∀σ' H',N σ' H'->∃m',m'<m/\W (i+1) m' σ' H')/\∀x H',J.yld i H x H'->g x σ H' λσ2 H2=>tb {D with nx:=N,ct:=N,bk:=D.nx} σ2 H2)
noncomputable def oH(fp:JY)(h:Heap):List (Addr×Obj):=fp.filterMap λb=>(h.get? b).map λo=>(b,o)
theorem gx{fp:JY}{h:Heap}{b:Addr}{o:Obj}(hb:b∈fp)(e:h.get? b=some o):(b,o)∈oH fp h:=List.mem_filterMap.mpr ⟨b,hb,by rw[e];rfl⟩
theorem x3{fp:JY}{h:Heap}{p:Addr×Obj}(hp:p∈oH fp h):p.1∈fp/\h.get? p.1=some p.2:=by
 obtain⟨b,hb,e⟩:=List.mem_filterMap.mp hp;cases q:h.get? b with
 |none=>rw[q]at e;cases e
 |some o=>
  rw[q]at e;have e':(b,o)=p:=Option.some.inj e;subst e';exact⟨hb,q⟩
theorem Inv.pinned{pins:JU}{σ:St}{H:Hp}{s:JW}{fp:JY}(I:Inv X pins σ H s)(hf:∀b∈fp,mx X pins H b)(ho:∀b∈fp,∃o,s.heap.get? b=some o/\∀v,o.data≠.cell v):Inv X (pins++oH fp s.heap) σ H s:=
 I.pins_of λp hp=>(Je.mp hp).elim (λz=>I.pin p (List.mem_append_right _ z)) λz=>by
  obtain⟨hb,e⟩:=x3 z;obtain⟨f0,f1,f2,_⟩:=hf p.1 hb;obtain⟨o,e',d⟩:=ho p.1 hb;rw[e]at e';cases e'
  exact⟨e,f0,f1,f2,d⟩
theorem Inv.unpinned{pins pl:JU}{σ:St}{H:Hp}{s:JW}(I:Inv X (pins++pl) σ H s):Inv X pins σ H s:=I.pins_of λp hp=>I.pin p (List.mem_append_right _ (List.mem_append_left _ hp))
theorem DB{iter:Expr}{body:List Stmt}{wi:TI}{g:TG}{tb:TS}{pos:Pos}(hp:PassesOwn (model X.prog X.w) X.A X.env X.xe)(hc:X.calm=true)(hi:PI X tg iter wi)(hg:PG X tg g)(hb:o9 X body tb)
  (hs:autoParam (∀x,foldedSetIterable iter X.env x=pure x) zz4._auto_1):PS X (.For tg iter body [] pos) (Ff wi g tb):=by
 intro pins s σ H D I h;refine wpAny_For (bM (hi pins s σ H _ I h) λv s1 h1=>bM h1 λitv s2 h2=>?_) hs;obtain⟨it,fp,tn,J,H2,e,I2,T,st2,f2,W,⟨m0,w0⟩,turn⟩:=h2;subst e
 -- what stays true of the iterator's objects through the loop
 have stat:∀{H':Hp},(∀b∈fp,H' b=none)->∀b∈fp,mx X pins H' b:=λhn b hb=>⟨hn b hb,(f2 b hb).2⟩;refine codeAny_forLoop_any (λn s'=>∃i σ' H',Inv X pins σ' H' s'/\tn i s'.heap/\(∀b∈fp,H' b=none)/\W i n σ' H') ?_ m0 ⟨0,σ,H2,I2,st2,λb hb=>(f2 b hb).1,w0⟩;rintro n s3 ⟨i,σ3,H3,I3,st3,fr3,w3⟩;rcases turn i n σ3 H3 w3 with⟨stop,qn⟩ | ⟨go,N,hN,step⟩
 ·refine wpAny_passesOwn hp (bM (T.done X rfl rfl rfl hc i pins s3 σ3 H3 X.xe I3 (stat fr3) st3 stop) λr s4 ⟨hr,I4⟩=>?_)
  subst hr;exact wpAny_execs_nil ⟨σ3,H3,I4,qn⟩
 ·refine wpAny_passesOwn hp (bM (T.item X rfl rfl rfl hc i pins s3 σ3 H3 X.xe I3 (stat fr3) st3 go) λr s4 ⟨u,hr,h4⟩=>?_)
  subst hr;refine wpAny_passesOwn hp (bM h4 λ_ s5 ⟨x,H5,I5,r5,y5,st5,fr5⟩=>?_);have I5':=I5.pinned (stat fr5) (T.obj _ _ st5);refine wpAny_passesOwn hp (bM (hg _ s5 σ3 H5 x u _ I5' r5 (step x H5 y5)) λ_ s6 ⟨σ6,H6,I6,q6⟩=>?_);refine wpAny_passesOwn hp (bM (hb _ s6 σ6 H6 _ I6 q6) λf s7 q7=>?_);have again:∀{σ7:St} {H7:Hp},Inv X (pins++oH fp s5.heap) σ7 H7 s7->N σ7 H7->∃m,m<n/\∃i σ' H',Inv X pins σ' H' s7/\tn i s7.heap/\(∀b∈fp,H' b=none)/\W i m σ' H':=fun{σ7 H7} I7 n7=>by
   obtain⟨m',hm,w7⟩:=hN σ7 H7 n7;refine⟨m',hm,i+1,σ7,H7,I7.unpinned,T.keep _ _ _ st5 λb hb o e=>(I7.pin (b,o) (List.mem_append_right _ (List.mem_append_right _ (gx hb e)))).1,λb hb=>?_,w7⟩;obtain⟨o,e,d⟩:=T.obj _ _ st5 b hb;exact(I7.pin (b,o) (List.mem_append_right _ (List.mem_append_right _ (gx hb e)))).2.1
  cases f with
  |next=>obtain⟨σ7,H7,I7,n7⟩:=q7;exact again I7 n7
  |cont=>obtain⟨σ7,H7,I7,n7⟩:=q7;exact again I7 n7
  |brk=>obtain⟨σ7,H7,I7,q7⟩:=q7;exact⟨σ7,H7,I7.unpinned,q7⟩
  |ret v=>obtain⟨x7,σ7,H7,I7,r7,q7⟩:=q7;exact⟨x7,σ7,H7,I7.unpinned,r7,q7⟩
end
theorem zr{K:JT}{a:Addr}{xs:List V}{g:TG}{tb:TS}{D:gY}{σ:St}{H:Hp}(Pv:Nat->St->Hp->Prop)(h0:Pv 0 σ H)(hl:∀i σ H,i<=xs.length->Pv i σ H->aW K H a xs)
  (hs:∀i x σ H,xs[i]?=some x->Pv i σ H->g x σ H λσ2 H2=>tb {D with nx:=Pv (i+1),ct:=Pv (i+1),bk:=D.nx} σ2 H2) (hd:∀σ H,Pv xs.length σ H->D.nx σ H) :
  ∃W:Nat->Nat->St->Hp->Prop,(∃m,W 0 m σ H)/\∀i m σ H,W i m σ H ->
   ((AD K a).stop i H/\D.nx σ H)\/((AD K a).go i H/\∃N:St->Hp->Prop,(∀σ' H',N σ' H'->∃m',m'<m/\W (i+1) m' σ' H')/\∀x H',(AD K a).yld i H x H'->g x σ H' λσ2 H2=>tb {D with nx:=N,ct:=N,bk:=D.nx} σ2 H2):=by
 refine⟨λi m σ H=>m=xs.length-i/\i<=xs.length/\Pv i σ H,⟨xs.length,by simp,Jp _,h0⟩,?_⟩;rintro i m σ H ⟨rfl,hi,p⟩;have q:=hl i σ H hi p
 by_cases hlt:i<xs.length
 ·refine .inr ⟨⟨xs,xs[i],q,by simp[hlt]⟩,Pv (i+1),λσ' H' p'=>⟨xs.length-(i+1),⋯,rfl,hlt,p'⟩,λx H' y=>?_⟩
  obtain⟨e,y⟩:=y;subst e;exact hs i x σ _ (y xs q) p
 ·have e:i=xs.length:=by omega
  subst e;exact .inl ⟨⟨xs,q,Jo _⟩,hd σ H p⟩
theorem BX{K:JT}{a:Addr}{xs:List V}{g:TG}{tb:TS}{D:gY}{σ:St}{H:Hp}(Pv:Nat->St->Hp->Prop)(h0:Pv 0 σ H)(hl:∀i σ H,i<=xs.length->Pv i σ H->bc K H a xs)
  (hs:∀i x σ H,xs[i]?=some x->Pv i σ H->g x σ H λσ2 H2=>tb {D with nx:=Pv (i+1),ct:=Pv (i+1),bk:=D.nx} σ2 H2) (hd:∀σ H,Pv xs.length σ H->D.nx σ H) :
  ∃W:Nat->Nat->St->Hp->Prop,(∃m,W 0 m σ H)/\∀i m σ H,W i m σ H ->
   ((C9 K a).stop i H/\D.nx σ H)\/((C9 K a).go i H/\∃N:St->Hp->Prop,(∀σ' H',N σ' H'->∃m',m'<m/\W (i+1) m' σ' H')/\∀x H',(C9 K a).yld i H x H'->g x σ H' λσ2 H2=>tb {D with nx:=N,ct:=N,bk:=D.nx} σ2 H2):=by
 refine⟨λi m σ H=>m=xs.length-i/\i<=xs.length/\Pv i σ H,⟨xs.length,by simp,Jp _,h0⟩,?_⟩;rintro i m σ H ⟨rfl,hi,p⟩;have q:=hl i σ H hi p
 by_cases hlt:i<xs.length
 ·refine .inr ⟨⟨xs,xs[i],q,by simp[hlt]⟩,Pv (i+1),λσ' H' p'=>⟨xs.length-(i+1),⋯,rfl,hlt,p'⟩,λx H' y=>?_⟩
  obtain⟨e,y⟩:=y;subst e;exact hs i x σ _ (y xs q) p
 ·have e:i=xs.length:=by omega
  subst e;exact .inl ⟨⟨xs,q,Jo _⟩,hd σ H p⟩
theorem yJ{lo:Int}{n:Nat}{g:TG}{tb:TS}{D:gY}{σ:St}{H:Hp}(Pv:Nat->St->Hp->Prop)(h0:Pv 0 σ H)
  (hs:∀i σ H,i<n->Pv i σ H->g (.int (lo+i)) σ H λσ2 H2=>tb {D with nx:=Pv (i+1),ct:=Pv (i+1),bk:=D.nx} σ2 H2) (hd:∀σ H,Pv n σ H->D.nx σ H) :
  ∃W:Nat->Nat->St->Hp->Prop,(∃m,W 0 m σ H)/\∀i m σ H,W i m σ H ->
   ((ze lo n).stop i H/\D.nx σ H)\/((ze lo n).go i H/\∃N:St->Hp->Prop,(∀σ' H',N σ' H'->∃m',m'<m/\W (i+1) m' σ' H')/\∀x H',(ze lo n).yld i H x H'->g x σ H' λσ2 H2=>tb {D with nx:=N,ct:=N,bk:=D.nx} σ2 H2):=by
 refine⟨λi m σ H=>m=n-i/\i<=n/\Pv i σ H,⟨n,by simp,Jp _,h0⟩,?_⟩;rintro i m σ H ⟨rfl,hi,p⟩
 by_cases hlt:i<n
 ·refine .inr ⟨hlt,Pv (i+1),λσ' H' p'=>⟨n-(i+1),⋯,rfl,hlt,p'⟩,λx H' y=>?_⟩
  obtain⟨e,y⟩:=y;subst e y;exact hs i σ _ hlt p
 ·have e:i=n:=by omega
  subst e;exact .inl ⟨Jo _,hd σ H p⟩
noncomputable abbrev R2:=V->V->Hp->VK->Prop
def aZ(X:Cx)(f:Value->Value->Sem Value)(r:R2):Prop:=
 ∀(pins:JU) (s:JW) (σ:St) (H:Hp) (x y:V) (v u:Value) (Q:VK),Inv X pins σ H s->bq x v->bq y u->r x y H Q ->
  wpAny (model X.prog X.w) X.A (f v u) (EP X pins σ Q) X.xe s
def FG(X:Cx)(f:Value->Sem Value)(r:V->Hp->VK->Prop):Prop:=
 ∀(pins:JU) (s:JW) (σ:St) (H:Hp) (x:V) (v:Value) (Q:VK),Inv X pins σ H s->bq x v->r x H Q ->
  wpAny (model X.prog X.w) X.A (f v) (EP X pins σ Q) X.xe s
def fb(X:Cx)(f:Value)(r:List V->Hp->VK->Prop):Prop:=
 ∀(pins:JU) (s:JW) (σ:St) (H:Hp) (xs:List V) (us:JX) (Q:VK),Inv X pins σ H s->aY xs us->r xs H Q ->
  wpAny (model X.prog X.w) X.A (call f us) (EP X pins σ Q) X.xe s
noncomputable def CW(r:R2)(ta tb:TE):TE:=λσ H Q=>ta σ H λx H1=>tb σ H1 λy H2=>r x y H2 Q
noncomputable def E7(r:V->Hp->VK->Prop)(ta:TE):TE:=λσ H Q=>ta σ H λx H1=>r x H1 Q
noncomputable def rI(C:Int->Int->Prop)(g:Int->Int->V):R2:=λx y H Q=>∃i j,x=.int i/\y=.int j/\C i j/\Q (g i j) H
noncomputable def yT(g:Int->Int->V):R2:=λx y H Q=>∃i j,x=.int i/\y=.int j/\Q (g i j) H
noncomputable def rU(g:Int->V):V->Hp->VK->Prop:=λx H Q=>∃i,x=.int i/\Q (g i) H
section
variable {X:Cx}{a b c:Expr}{ta tb tc:TE}{pos:Pos}
theorem Dx(ha:PE X a ta)(hb:PE X b tb){pins:JU}{s:JW}{σ:St}{H:Hp}{R:V->V->Hp->Prop}(I:Inv X pins σ H s)
  (h:ta σ H λx H1=>tb σ H1 λy H2=>R x y H2) {Q:JS} {f:Value->Value->Sem Value}
  (hf:∀v u s2 x y H2,Inv X pins σ H2 s2->bq x v->bq y u->R x y H2->wpAny (model X.prog X.w) X.A (f v u) Q X.xe s2) :
  wpAny (model X.prog X.w) X.A (eval a X.env) (λv s₁=>wpAny (model X.prog X.w) X.A (eval b X.env) (λu s₂=>wpAny (model X.prog X.w) X.A (f v u) Q X.xe s₂) X.xe s₁) X.xe s:=by
 refine bM (ha pins s σ H _ I h) λv s1 ⟨x,H1,I1,r1,q1⟩=>?_;refine bM (hb pins s1 σ H1 _ I1 q1) λu s2 ⟨y,H2,I2,r2,q2⟩=>?_;exact hf v u s2 x y H2 I2 r1 r2 q2
theorem aq{op:Operator}{r:R2}(ho:aZ X (binaryOp op) r)(ha:PE X a ta)(hb:PE X b tb):PE X (.BinOp a op b pos) (CW r ta tb):=by
 intro pins s σ H Q I h;exact wpAny_BinOp (Dx ha hb I h λv u s2 x y H2 I2 rx ry q=>ho pins s2 σ H2 x y v u Q I2 rx ry q)
theorem tL{op:UnaryOp}{r:V->Hp->VK->Prop}(ho:FG X (unaryOp op) r)(ha:PE X a ta):PE X (.UnaryOp op a pos) (E7 r ta):=by
 intro pins s σ H Q I h;exact UnaryOp_ (bM (ha pins s σ H _ I h) λv s1 ⟨x,H1,I1,r1,q1⟩=>ho pins s1 σ H1 x v Q I1 r1 q1)
theorem EU{f:Value->Value->Sem Value}{C:Int->Int->Prop}{g:Int->Int->Int}
  (rule:∀(i j:Int) (t u:Tok) (s:JW) (Q:JS) (E:JS),C i j->Q (.int (g i j) s.toks) {s with toks:=s.toks+1}->wpAny (model X.prog X.w) X.A (f (.int i t) (.int j u)) Q E s) :
  aZ X f (rI C λi j=>.int (g i j)):=by
 intro pins s σ H x y v u Q I rx ry h;obtain⟨i,j,rfl,rfl,hc,q⟩:=h;obtain⟨t,rfl⟩:=rx;obtain⟨t',rfl⟩:=ry;exact rule i j t t' s _ _ hc ⟨.int (g i j),H,I.tok _,⟨_,rfl⟩,q⟩
theorem Ez{f:Value->Value->Sem Value}{g:Int->Int->Int}
  (rule:∀(i j:Int) (t u:Tok) (s:JW) (Q:JS) (E:JS),Q (.int (g i j) s.toks) {s with toks:=s.toks+1}->wpAny (model X.prog X.w) X.A (f (.int i t) (.int j u)) Q E s) :
  aZ X f (yT λi j=>.int (g i j)):=by
 intro pins s σ H x y v u Q I rx ry h;obtain⟨i,j,rfl,rfl,q⟩:=h;obtain⟨t,rfl⟩:=rx;obtain⟨t',rfl⟩:=ry;exact rule i j t t' s _ _ ⟨.int (g i j),H,I.tok _,⟨_,rfl⟩,q⟩
theorem B'{f:Value->Value->Sem Value}{g:Int->Int->Bool}
  (rule:∀(i j:Int) (t u:Tok) (s:JW) (Q:JS) (E:JS),Q (.bool (g i j)) s->wpAny (model X.prog X.w) X.A (f (.int i t) (.int j u)) Q E s) :
  aZ X f (yT λi j=>.bl (g i j)):=by
 intro pins s σ H x y v u Q I rx ry h;obtain⟨i,j,rfl,rfl,q⟩:=h;obtain⟨t,rfl⟩:=rx;obtain⟨t',rfl⟩:=ry;exact rule i j t t' s _ _ ⟨.bl (g i j),H,I,rfl,q⟩
def Ep(i j:Int):Prop:=0<=j/\j<=1000000/\i.natAbs<2 ^ 64
def AV(i j:Int):Prop:=(-(2 ^ 64)<i/\i<2 ^ 64)\/(-(2 ^ 64)<j/\j<2 ^ 64)
theorem AV.ok{i j:Int}(h:AV i j):IntMulOk i j:=by
 rcases h with⟨h1,h2⟩ | ⟨h1,h2⟩
 ·exact .of_left (intBits_le_64 h1 h2)
 ·exact .of_right (intBits_le_64 h1 h2)
theorem bx:aZ X (binaryOp .Add) (yT λi j=>.int (i+j)):=Ez λ_ _ _ _ _ _ _ q=>add_int q
theorem fJ:aZ X (binaryOp .Sub) (yT λi j=>.int (i-j)):=Ez λ_ _ _ _ _ _ _ q=>sub_int q
theorem fh:aZ X (binaryOp .Mult) (rI AV λi j=>.int (i*j)):=EU λ_ _ _ _ _ _ _ hc q=>mul_int q hc.ok
theorem aX:aZ X (binaryOp .Mod) (rI (λ_ j=>0<j) λi j=>.int (i%j)):=EU λi j _ _ _ _ _ hc q=>by
 have h1:(0:Int)<j:=hc;exact mod_int' ⋯ (by rw[Int.fmod_eq_emod_of_nonneg i ⋯];exact q)
theorem Bo:aZ X (binaryOp .Pow) (rI Ep λi j=>.int (i ^ j.toNat)):=EU λ_ _ _ _ _ _ _ hc q=>pow_int_small hc.1 hc.2.1 hc.2.2 q
theorem Gm{f:Value->Sem Value}{g:Int->Int}
  (rule:∀(i:Int) (t:Tok) (s:JW) (Q:JS) (E:JS),Q (.int (g i) s.toks) {s with toks:=s.toks+1}->wpAny (model X.prog X.w) X.A (f (.int i t)) Q E s) :
  FG X f (rU λi=>.int (g i)):=by
 intro pins s σ H x v Q I rx h;obtain⟨i,rfl,q⟩:=h;obtain⟨t,rfl⟩:=rx;exact rule i t s _ _ ⟨.int (g i),H,I.tok _,⟨_,rfl⟩,q⟩
theorem nJ:FG X (unaryOp .USub) (rU λi=>.int (-i)):=Gm λ_ _ _ _ _ q=>neg_int q
end
noncomputable def CP:V->V->Bool
 | .non,.non=>true | .non,.int _=>true | .int _,.non=>true | .non,.bl _=>true | .bl _,.non=>true | .non,.str _=>true | .str _,.non=>true
 | .int _,.int _=>true | .bl _,.bl _=>true | .str _,.str _=>true | .byt _,.byt _=>true
 | .int _,.str _=>true | .str _,.int _=>true | .bl _,.str _=>true | .str _,.bl _=>true
 |_,_=>false
noncomputable def Fi:R2:=λx y H Q=>CP x y=true/\Q (.bl (decide (x=y))) H
noncomputable def FO:R2:=λx y H Q=>CP x y=true/\Q (.bl (!decide (x=y))) H
theorem xc{i j:Int}:decide (V.int i=V.int j)=(i==j):=by
 rw[Bool.eq_iff_iff];simp
theorem AM{i j:Bool}:decide (V.bl i=V.bl j)=(i==j):=by
 rw[Bool.eq_iff_iff];simp
theorem wH{i j:Str}:decide (V.str i=V.str j)=(i==j):=by
 rw[Bool.eq_iff_iff];simp
theorem wO{i j:Array UInt8}:decide (V.byt i=V.byt j)=(i.toList==j.toList):=by
 rw[Bool.eq_iff_iff];cases i;cases j;simp
section
variable {X:Cx}{a b c:Expr}{ta tb tc:TE}{pos:Pos}
theorem bo{pins:JU}{σ:St}{H:Hp}{s:JW}{Q:VK}{k k':Bool}(I:Inv X pins σ H s)(q:Q (.bl k) H)(e:k=k'):EP X pins σ Q (.bool k') s:=by
 subst e;exact⟨.bl k,H,I,rfl,q⟩
theorem cz:aZ X (compareOp .Eq) Fi:=by
 intro pins s σ H x y v u Q I rx ry h;obtain⟨hs,q⟩:=h;cases x with
 |non=>
  cases rx;cases y with
  |non=>cases ry;exact PySem.EqNone.eq_none_none (bo I q (by simp))
  |bl j=>cases ry;exact PySem.EqNone.eq_none_bool (bo I q (by simp))
  |int j=>obtain⟨t',rfl⟩:=ry;exact PySem.EqNone.eq_none_int (bo I q (by simp))
  |str j=>obtain⟨t',rfl⟩:=ry;exact PySem.EqNone.eq_none_str (bo I q (by simp))
  |_=>exact absurd (show false=true from hs) Jq
 |bl i=>
  cases rx;cases y with
  |non=>cases ry;exact PySem.EqNone.eq_bool_none (bo I q (by simp))
  |bl j=>cases ry;exact eq_bool (bo I q AM)
  |str j=>obtain⟨t',rfl⟩:=ry;exact PySem.EqMixed.eq_bool_str (bo I q (by simp))
  |_=>exact absurd (show false=true from hs) Jq
 |int i=>
  obtain⟨t,rfl⟩:=rx;cases y with
  |non=>cases ry;exact PySem.EqNone.eq_int_none (bo I q (by simp))
  |int j=>obtain⟨t',rfl⟩:=ry;exact eq_int (bo I q xc)
  |str j=>obtain⟨t',rfl⟩:=ry;exact PySem.EqMixed.eq_int_str (bo I q (by simp))
  |_=>exact absurd (show false=true from hs) Jq
 |str i=>
  obtain⟨t,rfl⟩:=rx;cases y with
  |non=>cases ry;exact PySem.EqNone.eq_str_none (bo I q (by simp))
  |bl j=>cases ry;exact PySem.EqMixed.eq_str_bool (bo I q (by simp))
  |int j=>obtain⟨t',rfl⟩:=ry;exact PySem.EqMixed.eq_str_int (bo I q (by simp))
  |str j=>obtain⟨t',rfl⟩:=ry;exact eq_str (bo I q wH)
  |_=>exact absurd (show false=true from hs) Jq
 |byt i=>
  obtain⟨t,rfl⟩:=rx;cases y with
  |byt j=>obtain⟨t',rfl⟩:=ry;exact PySem.W.eq_bytes (bo I q wO)
  |_=>exact absurd (show false=true from hs) Jq
 |_=>cases y<;>exact absurd (show false=true from hs) Jq
theorem jb:aZ X (compareOp .NotEq) FO:=by
 intro pins s σ H x y v u Q I rx ry h;obtain⟨hs,q⟩:=h;cases x with
 |non=>
  cases rx;cases y with
  |non=>cases ry;exact PySem.EqNone.ne_none_none (bo I q (by simp))
  |bl j=>cases ry;exact PySem.EqNone.ne_none_bool (bo I q (by simp))
  |int j=>obtain⟨t',rfl⟩:=ry;exact PySem.EqNone.ne_none_int (bo I q (by simp))
  |str j=>obtain⟨t',rfl⟩:=ry;exact PySem.EqNone.ne_none_str (bo I q (by simp))
  |_=>exact absurd (show false=true from hs) Jq
 |bl i=>
  cases rx;cases y with
  |non=>cases ry;exact PySem.EqNone.ne_bool_none (bo I q (by simp))
  |bl j=>cases ry;exact ne_bool (bo I q (congrArg not AM))
  |str j=>obtain⟨t',rfl⟩:=ry;exact PySem.EqMixed.ne_bool_str (bo I q (by simp))
  |_=>exact absurd (show false=true from hs) Jq
 |int i=>
  obtain⟨t,rfl⟩:=rx;cases y with
  |non=>cases ry;exact PySem.EqNone.ne_int_none (bo I q (by simp))
  |int j=>obtain⟨t',rfl⟩:=ry;exact ne_int (bo I q (congrArg not xc))
  |str j=>obtain⟨t',rfl⟩:=ry;exact PySem.EqMixed.ne_int_str (bo I q (by simp))
  |_=>exact absurd (show false=true from hs) Jq
 |str i=>
  obtain⟨t,rfl⟩:=rx;cases y with
  |non=>cases ry;exact PySem.EqNone.ne_str_none (bo I q (by simp))
  |bl j=>cases ry;exact PySem.EqMixed.ne_str_bool (bo I q (by simp))
  |int j=>obtain⟨t',rfl⟩:=ry;exact PySem.EqMixed.ne_str_int (bo I q (by simp))
  |str j=>obtain⟨t',rfl⟩:=ry;exact ne_str (bo I q (congrArg not wH))
  |_=>exact absurd (show false=true from hs) Jq
 |byt i=>
  obtain⟨t,rfl⟩:=rx;cases y with
  |byt j=>obtain⟨t',rfl⟩:=ry;exact PySem.W.ne_bytes (bo I q (congrArg not wO))
  |_=>exact absurd (show false=true from hs) Jq
 |_=>cases y<;>exact absurd (show false=true from hs) Jq
theorem lZ:aZ X (compareOp .Lt) (yT λi j=>.bl (decide (i<j))):=B' λ_ _ _ _ _ _ _ q=>lt_int q
theorem oN:aZ X (compareOp .LtE) (yT λi j=>.bl (decide (i<=j))):=B' λ_ _ _ _ _ _ _ q=>le_int q
theorem gW:aZ X (compareOp .Gt) (yT λi j=>.bl (decide (j<i))):=B' λ_ _ _ _ _ _ _ q=>gt_int q
theorem Br:aZ X (compareOp .GtE) (yT λi j=>.bl (decide (j<=i))):=B' λ_ _ _ _ _ _ _ q=>ge_int q
theorem xQ:aZ X (compareOp .In) (λx y H Q=>∃i j,x=.str i/\y=.str j/\Q (.bl (!(Builtin.Str.occurrences j i 0 j.length 1).isEmpty)) H):=by
 intro pins s σ H x y v u Q I rx ry h;obtain⟨i,j,rfl,rfl,q⟩:=h;obtain⟨t,rfl⟩:=rx;obtain⟨t',rfl⟩:=ry;exact in_str (bo I q rfl)
theorem ol:aZ X (compareOp .Is) (λx y H Q=>y=.non/\Q (.bl (decide (x=.non))) H):=by
 intro pins s σ H x y v u Q I rx ry h;obtain⟨rfl,q⟩:=h;cases ry;refine is_none_gen (bo I q ?_);cases x<;>first
  | (cases rx;rfl)
  | (obtain⟨t,rfl⟩:=rx;rfl)
theorem gy:aZ X (compareOp .IsNot) (λx y H Q=>y=.non/\Q (.bl (!decide (x=.non))) H):=by
 intro pins s σ H x y v u Q I rx ry h;obtain⟨rfl,q⟩:=h;cases ry;refine isnot_none_gen (bo I q ?_);cases x<;>first
  | (cases rx;rfl)
  | (obtain⟨t,rfl⟩:=rx;rfl)
theorem rL:aZ X (compareOp .NotIn) (λx y H Q=>∃i j,x=.str i/\y=.str j/\Q (.bl (!(!(Builtin.Str.occurrences j i 0 j.length 1).isEmpty))) H):=by
 intro pins s σ H x y v u Q I rx ry h;obtain⟨i,j,rfl,rfl,q⟩:=h;obtain⟨t,rfl⟩:=rx;obtain⟨t',rfl⟩:=ry;exact notIn_str (bo I q rfl)
theorem aI(b:Expr){op:CmpOp}(h:autoParam (op≠.In) zz1._auto_1)(h2:autoParam (op≠.NotIn) zz1._auto_1):behindInMarks op b=false:=by
 have e1:(op==CmpOp.In)=false:=by cases op<;>first | rfl | exact absurd rfl h
 have e2:(op==CmpOp.NotIn)=false:=by cases op<;>first | rfl | exact absurd rfl h2
 cases b<;>simp[behindInMarks,e1,e2]
theorem dS{op:CmpOp}{r:R2}(ho:aZ X (compareOp op) r)(ha:PE X a ta)(hb:PE X b tb)(hm:behindInMarks op b=false):PE X (.Compare a [op] [b] pos) (CW r ta tb):=by
 intro pins s σ H Q I h;exact wpAny_Compare1 (Dx ha hb I h λv u s2 x y H2 I2 rx ry q=>ho pins s2 σ H2 x y v u Q I2 rx ry q) hm
noncomputable def w4(t:TE):TT:=λσ H Q=>t σ H λx H'=>∃k,x=.bl k/\Q k H'
theorem aB{op:CmpOp}{r:R2}(ho:aZ X (compareOp op) r)(ha:PE X a ta)(hb:PE X b tb)(hm:behindInMarks op b=false):PT X (.Compare a [op] [b] pos) (w4 (CW r ta tb)):=by
 intro pins s σ H Q I h;refine wpAny_isTrue_Compare1 (bM (ha pins s σ H _ I h) λv s1 ⟨x,H1,I1,r1,q1⟩=>bM (hb pins s1 σ H1 _ I1 q1) λu s2 ⟨y,H2,I2,r2,q2⟩=>
  bM (ho pins s2 σ H2 x y v u _ I2 r1 r2 q2) λc s3 ⟨z,H3,I3,r3,k,e,q3⟩=>?_) hm
 subst e;cases r3;exact wpAny_truthy_bool ⟨H3,I3,q3⟩
noncomputable def vA(r r':R2)(ta tb tc:TE):TE:=λσ H Q=>ta σ H λx H1=>tb σ H1 λy H2=>r x y H2 λz H3=>∃k,z=.bl k /\
 (if k=true then tc σ H3 λw' H4=>r' y w' H4 Q else Q (.bl false) H3)
theorem tS{op op':CmpOp}{r r':R2}(ho:aZ X (compareOp op) r)(ho':aZ X (compareOp op') r')(ha:PE X a ta)(hb:PE X b tb)(hc:PE X c tc)
  (hm:lastMarks [op,op'] [b,c]=false:=by with_unfolding_all rfl):PE X (.Compare a [op,op'] [b,c] pos) (vA r r' ta tb tc):=by
 intro pins s σ H Q I h;refine Compare_chain (bM (ha pins s σ H _ I h) λv s1 ⟨x,H1,I1,r1,q1⟩=>chain_link (bM (hb pins s1 σ H1 _ I1 q1) λu s2 ⟨y,H2,I2,r2,q2⟩=>
  bM (ho pins s2 σ H2 x y v u _ I2 r1 r2 q2) λd s3 ⟨z,H3,I3,r3,k,e,q3⟩=>?_)) hm
 subst e;cases r3;refine wpAny_truthy_bool ?_;cases k with
 |false=>exact ite_ff ⟨.bl false,H3,I3,rfl,q3⟩
 |true=>exact ite_tt (chain_last (bM (hc pins s3 σ H3 _ I3 q3) λw' s4 ⟨z',H4,I4,r4,q4⟩=>ho' pins s4 σ H4 y z' u w' Q I4 r2 r4 q4))
theorem lj:(sizeLine:Nat)<2 ^ 63:=by rw[sizeLine_eq];decide
theorem m4:aZ X (binaryOp .Add) (λx y H Q=>∃i j,x=.str i/\y=.str j/\i.length+j.length<=sizeLine/\Q (.str (i++j)) H):=by
 intro pins s σ H x y v u Q I rx ry h;obtain⟨i,j,rfl,rfl,hz,q⟩:=h;obtain⟨t,rfl⟩:=rx;obtain⟨t',rfl⟩:=ry;exact add_str (λt' tk=>⟨.str (i++j),H,I.tok _,⟨_,rfl⟩,q⟩) hz
theorem tI{x:V}{us:JX}(r:aY [x] us):∃u,us=[u]/\bq x u:=by
 cases r with
 |cons r1 r2=>cases r2;exact⟨_,rfl,r1⟩
end
structure wC(h:Heap)(x dx C:Addr)(mA:JZ):Prop where
 obj:h.get? x=some (PySem.W.instObj C dx)
 ns:h.Ns1 dx mA
 ne:dx≠x
theorem lQ{h:Heap}{dx:Addr}{mA:JZ}(n:h.Ns1 dx mA):∃od,h.get? dx=some od/\∀name,PySem.W.lookIn name od=some (mA name):=by
 obtain⟨o,es,ep,ho,hd,hk,_,hm⟩:=n;refine⟨o,ho,λname=>?_⟩;have e:=hm name;unfold nsFind findBy at e;rw[<- Array.find?_toList]at e;unfold PySem.W.lookIn;rw[hd];dsimp only
 split
 ·rename_i y q
  rw[q]at e;exact congrArg some e
 ·rename_i q
  rw[q]at e;have a:es.toList.any (·.refKey)=false:=by
   rw[List.any_eq_false];intro y hy;obtain⟨z,t,hkey⟩:=hk y (Array.mem_toList_iff.mp hy);simp[DictEntry.refKey,hkey]
  have a':¬ es.toList.any (·.refKey)=true:=by rw[a];exact Jq
  rw[if_neg a'];exact congrArg some e
theorem wC.look{h:Heap}{x dx C:Addr}{mA:JZ}(I:wC h x dx C mA):∃od,PySem.W.InstAt h x (PySem.W.instObj C dx) C (some od)/\∀name,PySem.W.lookIn name od=some (mA name):=
 let ⟨od,ho,hl⟩:=lQ I.ns
 ⟨od,⟨I.obj,rfl,rfl,ho⟩,hl⟩
section
variable {prog:J3}{w:J9}{A:J8}{E:JS}{s:JW}{K:JT}{x dx C f:Addr}{mA:JZ}{name:Str}{v:Value}
theorem BK{expr:Bool}{Q:JS}(X:K.In s.heap)(I:wC s.heap x dx C mA)(hg:PySem.W.plainGet K C name=true)(hh:PySem.W.hasDictIn K C=true)
  (ha:PySem.W.findIn K (.ref C) name=some none) (hv:mA name=some v) (hv':PySem.W.handedIn v=true) (h:Q v {s with toks:=s.toks+1}) :
  wpAny (model prog w) A (getAttr (.ref x) name expr) Q E s:=by
 obtain⟨od,J,hl⟩:=I.look;exact PySem.W.get_value X J (PySem.W.plainGet_of hg).1 (PySem.W.findObj_own hh ha rfl (by rw[hl,hv])) hv' h
theorem Bv{pl:Sem Bool}{Q:Value×List Value->Shared->Prop}(X:K.In s.heap)(I:wC s.heap x dx C mA)(hg:PySem.W.plainGet K C name=true)
  (hf:PySem.W.findIn K (.ref C) name=some (some (.ref f))) (ht:PySem.W.isFn K (.ref f)=true) (hv:mA name=none) (h:Q (.ref f,[.ref x]) s) :
  wpAny (model prog w) A (getMethod (.ref x) name pl) Q E s:=by
 obtain⟨od,J,hl⟩:=I.look;exact PySem.W.method_fn X J (PySem.W.plainGet_of hg).1 (PySem.W.plainGet_of hg).2 hf (beq_iff_eq.mp ht) (by show(PySem.W.lookIn name od).map (·.isSome)=some false;rw[hl,hv];rfl) h
theorem CQ{ns:J4}{Q:Unit->Shared->Prop}(X:K.In s.heap)(I:wC s.heap x dx C mA)
  (hs:PySem.W.findIn K (.ref C) "__setattr__"=some (some (.builtin "object.__setattr__"))) (hp:PySem.W.plainOver K C=true) (ht:PySem.W.takerIn K C name=some none) (hh:PySem.W.hasDictIn K C=true)
  (hw:PySem.Within mA ns) (hsz:ns.length<=sizeLine)
  (h:∀h',wC h' x dx C (λy=>if y=name then some v else mA y)->Heap.SameBut dx s.heap h'->Q () {s with heap:=h',toks:=s.toks+2}) :
  wpAny (model prog w) A (setAttr (.ref x) name v) Q E s:=by
 obtain⟨od,J,hl⟩:=I.look;refine PySem.W.set_plain X J hs (PySem.W.osa_open (s:={s with toks:=s.toks+1}) (r:=none) X J hp ht λb=>?_);obtain⟨cd,hc,hd'⟩:=PySem.W.any_some hh;have hx:s.heap.get? x=some ⟨.ref C,some dx,.plain,#[]⟩:=I.obj;refine wpAny_bind (wpAny_pure (wpAny_bind (wpAny_bind (wpAny_loadPart hx (wpAny_bind (PySem.W.Looks.here (s:={s with toks:=s.toks+1}) (PySem.W.looks_clsIn X hc) ?_))))));rw[hd'];refine wpAny_pure (a:=some dx) (wpAny_bind (wpAny_pure (wpAny_bind ?_)));refine wpAny_nsSet1 (s:={s with toks:=s.toks+1}) I.ns λh' hn2 hs2=>?_;obtain⟨oD,esD,epD,hoD,hdD,hcD⟩:=hn2.count (PySem.Within.cons name v hw);refine wpAny_bind (wpAny_lookBehind hoD (by rw[hdD];exact pastItsLine_dict (Jw hcD (by rw[Jc];omega))) ?_);exact wpAny_pure (h _ ⟨(hs2.2 _ (Ne.symm I.ne)).trans I.obj,hn2,I.ne⟩ hs2)
theorem zT{R:Result->Shared->Prop}{vs:JX}{kw:List (Str×Value)}(X:K.In s.heap)(hm:PySem.W.makesIn K C=true)
  (hi:PySem.W.findIn K (.ref C) "__init__"=some (some (.ref f))) (hf:PySem.W.typeIn K (.ref f)=some (.type "function"))
  (h:codeAny (model prog w) (A.under (.builtin "type.__call__" ⟨.ref C::vs,kw⟩)) (.call (.ref f) ⟨.ref (s.heap.objs.size+1)::vs,kw⟩) (PySem.W.InitBack (s.heap.objs.size+1) R)
   {s with heap:=(s.heap.push PySem.W.emptyDict).push (PySem.W.instObj C s.heap.objs.size)}) :
  codeAny (model prog w) A (.call (.ref C) ⟨vs,kw⟩) R s:=by
 obtain⟨hh,g,d,t,os⟩:=s;exact PySem.W.make_core (PySem.W.makes_of X hm) (PySem.W.looks_findIn X hi) (λself=>PySem.W.bind_fn X self hf) (.inl rfl) h
end
noncomputable def cn(f:Str)(v:V):List (Str×V)->List (Str×V)
 | []=>[(f,v)]
 | (g,x)::r=>if g=f then(g,v)::r else(g,x)::cn f v r
theorem l_(f g:Str)(v:V):∀fs:List (Str×V),(cn f v fs).lookup g=if g=f then some v else fs.lookup g
 | []=>by
  show List.lookup g [(f,v)]=_
  by_cases h:g=f
  ·have hb:(g==f)=true:=beq_iff_eq.mpr h
   simp only[List.lookup,hb,if_pos h]
  ·have hb:(g==f)=false:=beq_eq_false_iff_ne.mpr h
   simp only[List.lookup,hb,if_neg h]
 | (k,x)::r=>by
  have ih:=l_ f g v r;rw[show cn f v ((k,x)::r)=(if k=f then(k,v)::r else(k,x)::cn f v r) from rfl]
  by_cases hk:k=f
  ·rw[if_pos hk]
   by_cases h:g=k
   ·have hb:(g==k)=true:=beq_iff_eq.mpr h
    simp only[List.lookup,hb,if_pos (h.trans hk)]
   ·have hb:(g==k)=false:=beq_eq_false_iff_ne.mpr h
    simp only[List.lookup,hb,if_neg (λe:g=f=>h (e.trans hk.symm))]
  ·rw[if_neg hk]
   by_cases h:g=k
   ·have hb:(g==k)=true:=beq_iff_eq.mpr h
    simp only[List.lookup,hb,if_neg (λe:g=f=>hk (h.symm.trans e))]
   ·have hb:(g==k)=false:=beq_eq_false_iff_ne.mpr h
    simp only[List.lookup,hb];exact ih
theorem lu(f:Str)(v:V):∀fs:List (Str×V),f∈(cn f v fs).map (·.1)/\∀g,g∈fs.map (·.1)->g∈(cn f v fs).map (·.1)
 | []=>⟨by simp[cn],λg h=>by simp at h⟩
 | (k,x)::r=>by
  obtain⟨i1,i2⟩:=lu f v r;rw[show cn f v ((k,x)::r)=(if k=f then(k,v)::r else(k,x)::cn f v r) from rfl]
  by_cases hk:k=f
  ·rw[if_pos hk]
   subst hk;exact⟨by simp,λg h=>by simpa using h⟩
  ·rw[if_neg hk]
   refine⟨?_,λg h=>?_⟩
   ·rw[Ju]
    exact Jh _ i1
   ·rw[Ju]at h ⊢
    rcases Jg.mp h with e | e
    ·exact Jg.mpr (.inl e)
    ·exact Jh _ (i2 g e)
theorem cB(f:Str)(v:V):∀fs:List (Str×V),(cn f v fs).length<=fs.length+1
 | []=>by simp[cn]
 | (k,x)::r=>by
  have ih:=cB f v r;rw[show cn f v ((k,x)::r)=(if k=f then(k,v)::r else(k,x)::cn f v r) from rfl]
  by_cases hk:k=f
  ·rw[if_pos hk,Jc,Jc];omega
  ·rw[if_neg hk,Jc,Jc];omega
theorem k9.some_of{v:V}{o:Option Value}(r:k9 (some v) o):∃u,o=some u/\bq v u:=by
 cases o with
 |none=>exact(show False from r).elim
 |some u=>exact⟨u,rfl,r⟩
theorem k9.none_of{o:Option Value}(r:k9 none o):o=none:=by
 cases o with
 |none=>rfl
 |some u=>exact(show False from r).elim
theorem pM{v:V}{u:Value}(r:bq v u):PySem.W.handedIn u=true:=by
 cases v with
 |non=>cases(show u=Value.none from r);rfl
 |bl b=>cases(show u=Value.bool b from r);rfl
 |int i=>obtain⟨t,e⟩:=(show ∃t,u=Value.int i t from r);cases e;rfl
 |str x=>obtain⟨t,e⟩:=(show ∃t,u=Value.str x t from r);cases e;rfl
 |byt b=>obtain⟨t,e⟩:=(show ∃t,u=Value.bytes b t from r);cases e;rfl
 |flt b=>obtain⟨t,e⟩:=(show ∃t,u=Value.float b t from r);cases e;rfl
 |ref a=>cases(show u=Value.ref a from r);rfl
 |ty n=>cases(show u=Value.type n from r);rfl
section
variable {P:J3}{w:J9}{H H':Hp}{h h':Heap}{a C dx:Addr}{fs fs':List (Str×V)}
theorem mR(hok:jk P w H h)(e:H a=some (.ins C dx fs)):∃mA,wC h a dx C mA/\(∀f,k9 (fs.lookup f) (mA f))/\PySem.Within mA (fs.map (·.1))/\fs.length<=1000/\H dx=some (.own a):=by
 obtain⟨d,z,ne,ob,mA,n,r,q⟩:=(show bt P w H h a (.ins C dx fs) from hok a _ e);exact⟨mA,⟨ob,n,ne⟩,r,q,z,d⟩
end
structure m9(K:JT)(C:Addr):Prop where
 pg:PySem.W.plainGet K C Str.empty=true
 hd:PySem.W.hasDictIn K C=true
 po:PySem.W.plainOver K C=true
 sa:PySem.W.findIn K (.ref C) "__setattr__"=some (some (.builtin "object.__setattr__"))
theorem m9.get{K:JT}{C:Addr}(c:m9 K C)(f:Str):PySem.W.plainGet K C f=true:=c.pg
def aN(K:JT)(C:Addr)(f:Str):Prop:=PySem.W.findIn K (.ref C) f=some none
theorem aN.taker{K:JT}{C:Addr}{f:Str}(n:aN K C f):PySem.W.takerIn K C f=some none:=by
 unfold PySem.W.takerIn;rw[show PySem.W.findIn K (.ref C) f=some none from n]
 rfl
structure IP(K:JT)(C:Addr)(f:Str)(v:V)(u:Value):Prop where
 at_:PySem.W.findIn K (.ref C) f=some (some u)
 rel:bq v u
 get:PySem.W.specialIn K u "__get__"=some none
 cp:PySem.W.copiedNames.contains f=false
structure jD(K:JT)(C:Addr)(m:Str)(f:Addr):Prop where
 at_:PySem.W.findIn K (.ref C) m=some (some (.ref f))
 fn:PySem.W.isFn K (.ref f)=true
 kp:PySem.W.keepIn K (.ref f)=true
section
variable {X:Cx}{pins:JU}{σ:St}{H:Hp}{s:JW}{a C dx:Addr}{fs:List (Str×V)}{f:Str}{v:V}{A:J8}{E:JS}
theorem vf{b:Bool}{Q:JS}(I:Inv X pins σ H s)(e:H a=some (.ins C dx fs))(c:m9 X.K C)(n:aN X.K C f)(l:fs.lookup f=some v)
  (h:∀u s',Inv X pins σ H s'->bq v u->Q u s'):wpAny (model X.prog X.w) A (getAttr (.ref a) f b) Q E s:=by
 obtain⟨mA,O,r,_,_,_⟩:=mR I.hok e;obtain⟨u,hu,ru⟩:=k9.some_of (v:=v) (o:=mA f) (by rw[<- l];exact r f);exact BK I.kIn O (c.get f) c.hd n hu (pM ru) (h u _ (I.tok _) ru)
theorem dO{m:Str}{g:Addr}{pl:Sem Bool}{Q:Value×List Value->Shared->Prop}(I:Inv X pins σ H s)(e:H a=some (.ins C dx fs))(c:m9 X.K C)(k:jD X.K C m g)(l:fs.lookup m=none)
  (h:Q (.ref g,[.ref a]) s):wpAny (model X.prog X.w) A (getMethod (.ref a) m pl) Q E s:=by
 obtain⟨mA,O,r,_,_,_⟩:=mR I.hok e;have hn:mA m=none:=k9.none_of (by rw[<- l];exact r m);exact Bv I.kIn O (c.get m) k.at_ k.fn hn h
theorem vU{y:V}{u:Value}{Q:Unit->Shared->Prop}(I:Inv X pins σ H s)(e:H a=some (.ins C dx fs))(c:m9 X.K C)(n:aN X.K C f)(hl:fs.length<1000)(ry:bq y u)
  (h:∀s',Inv X pins σ (aC H a (.ins C dx (cn f y fs))) s'->Q () s'):wpAny (model X.prog X.w) A (setAttr (.ref a) f u) Q E s:=by
 obtain⟨mA,O,r,wi,_,ho⟩:=mR I.hok e;have hz:(fs.map (·.1)).length<=sizeLine:=by rw[IT,sizeLine_eq];omega
 refine CQ I.kIn O c.sa c.po n.taker c.hd wi hz λh' O' sb=>h _ ?_;have hd:∃o,h'.get? dx=some o:=let ⟨o,_,_,e',_⟩:=O'.ns;⟨o,e'⟩
 refine I.write (x:=a) (e:=dx) (by rw[e];exact True.intro) (.inr ho) (λb q hb z=>(sb.2 b hb).trans z) hd ?_;refine⟨by rw[aj O.ne];exact ho,?_,O.ne,O'.obj,_,O'.ns,λg=>?_,λg hg=>?_⟩
 ·have:=cB f y fs;omega
 ·show k9 ((cn f y fs).lookup g) (if g=f then some u else mA g)
  rw[l_]
  by_cases q:g=f
  ·rw[if_pos q,if_pos q];exact ry
  ·rw[if_neg q,if_neg q];exact r g
 ·by_cases q:g=f
  ·rw[q];exact(lu f y fs).1
  ·refine(lu f y fs).2 g (wi g λz=>hg ?_)
   show(if g=f then some u else mA g)=none;rw[if_neg q];exact z
theorem Inv.made(I:Inv X pins σ H s):Inv X pins σ (aC (aC H s.heap.objs.size (.own (s.heap.objs.size+1))) (s.heap.objs.size+1) (.ins C s.heap.objs.size []))
  {s with heap:=(s.heap.push PySem.W.emptyDict).push (PySem.W.instObj C s.heap.objs.size)}:=by
 have e1:(s.heap.push PySem.W.emptyDict).get? s.heap.objs.size=some PySem.W.emptyDict:=IY s.heap rfl;have e2:((s.heap.push PySem.W.emptyDict).push (PySem.W.instObj C s.heap.objs.size)).get? (s.heap.objs.size+1)=some (PySem.W.instObj C s.heap.objs.size):=by
  have:=IY (s.heap.push PySem.W.emptyDict) (o:=PySem.W.instObj C s.heap.objs.size) rfl
  rwa [Heap.size_push]at this
 have e3:(s.heap.push PySem.W.emptyDict).Ns s.heap.objs.size (λ_=>none):=⟨PySem.W.emptyDict,#[],_,e1,rfl,(λe he=>absurd he (by simp)),λ_=>rfl⟩;have I1:=I.laid (a:=s.heap.objs.size) (o:=.own (s.heap.objs.size+1)) (h':=s.heap.push PySem.W.emptyDict) (t':=s.toks) (λb u q=>IS _ q) (Jo _) ⟨_,e1⟩;refine I1.laid (a:=s.heap.objs.size+1) (o:=.ins C s.heap.objs.size []) (t':=s.toks) (λb u q=>IS _ q) (Nat.le_of_eq (Heap.size_push _ _)) ?_;have ne:s.heap.objs.size≠s.heap.objs.size+1:=Jk (Jy _);refine⟨by rw[aj ne,ac],Jp _,ne,e2,λ_=>none,(Heap.Ns1.of_empty e3).at λo q=>IS _ q,λ_=>True.intro,λy hy=>absurd rfl hy⟩
theorem wW{prog:J3}{w:J9}{env:Env}{e:Expr}{f:Str}{pos:Pos}{s:JW}{Q:JS}(hb:attributeBase e f env (eval e env)=eval e env)
  (h:wpAny (model prog w) A (eval e env) (λo s₁=>wpAny (model prog w) A (getAttr o f true) Q E s₁) E s):wpAny (model prog w) A (eval (.Attribute e f pos) env) Q E s:=
 Attribute_any_ h (by rw[arm_eval_Attribute,hb])
end
noncomputable def BN(K:JT)(ta:TE)(f:Str):TE:=λσ H Q=>ta σ H λx H1=>∃a C dx fs v,x=.ref a/\H1 a=some (.ins C dx fs)/\m9 K C/\aN K C f/\fs.lookup f=some v/\Q v H1
noncomputable def DV(K:JT)(ta tv:TE)(f:Str):TS:=λD σ H=>tv σ H λy H1=>ta σ H1 λx H2=>∃a C dx fs,x=.ref a/\H2 a=some (.ins C dx fs)/\m9 K C/\aN K C f/\fs.length<1000 /\
 D.nx σ (aC H2 a (.ins C dx (cn f y fs)))
section
variable {X:Cx}{o e value:Expr}{f:Str}{pos pos' tpos:Pos}{ta tv:TE}
theorem e8(he:PE X e ta)(hb:attributeBase e f X.env (eval e X.env)=eval e X.env):PE X (.Attribute e f pos) (BN X.K ta f):=by
 intro pins s σ H Q I h;refine wW hb (bM (he pins s σ H _ I h) λu s1 ⟨x,H1,I1,rx,a,C,dx,fs,v,ex,ea,c,n,l,q⟩=>?_);subst ex;obtain rfl:u=Value.ref a:=rx;exact vf I1 ea c n l λu' s2 I2 ru=>⟨v,H1,I2,ru,q⟩
theorem dA(ha:PE X o ta)(hv:PE X value tv)(hs:swapsWith value (some (.Attribute o f pos')) pos.line X.env=pure false):PS X (.Assign [.Attribute o f pos'] value pos) (DV X.K ta tv f):=by
 intro pins s σ H D I h;refine plainObj_wpAny_Assign_Attribute (bM (hv pins s σ H _ I h) λu s1 ⟨y,H1,I1,ry,q⟩=>bM (ha pins s1 σ H1 _ I1 q) λov s2 ⟨x,H2,I2,rx,a,C,dx,fs,ex,ea,c,n,l,q2⟩=>?_) hs;subst ex;obtain rfl:ov=Value.ref a:=rx;exact vU I2 ea c n l ry λs3 I3=>⟨σ,_,I3,q2⟩
theorem C6{pl:Sem Bool}{m:Str}{apos:Pos}{args:Kb}{pins:JU}{s:JW}{σ:St}{H:Hp}{Q:JS}{te:TE}(he:PE X e te)(I:Inv X pins σ H s)
  (h:te σ H λx H1=>∃a C dx fs g,x=.ref a/\H1 a=some (.ins C dx fs)/\m9 X.K C/\jD X.K C m g/\fs.lookup m=none /\
   ∀s1,Inv X pins σ H1 s1->wpAny (model X.prog X.w) X.A (callWith pos (.ref g) [.ref a] (backTo pos (starEach args X.env)) (backToKw pos (keywordEach [] X.env))) Q X.xe s1)
  (ht:eval (.Call (.Attribute e m apos) args [] pos) X.env=(do
   let ov <- eval e X.env
   standAt apos.atName
   let (f,first) <- holding [ov] (getMethod ov m pl)
   callWith pos f first (backTo pos (starEach args X.env)) (backToKw pos (keywordEach [] X.env)))) :
  wpAny (model X.prog X.w) X.A (eval (.Call (.Attribute e m apos) args [] pos) X.env) Q X.xe s:=by
 refine PySem.W.methodCall_KW (pl:=pl) (bM (he pins s σ H _ I h) λu s1 ⟨x,H1,I1,rx,a,C,dx,fs,g,ex,ea,c,k,l,q⟩=>?_) ht;subst ex;obtain rfl:u=Value.ref a:=rx;exact dO I1 ea c k l (q s1 I1)
end
section
variable {X:Cx}{pins:JU}{σ:St}{H:Hp}{s:JW}{A:J8}{E:JS}{Q:JS}{c:Value}{b:Bool}
inductive i9(K:JT)(H:Hp):V->Value->Prop where
 |non:i9 K H .non (.type "NoneType")
 |bl (x:Bool):i9 K H (.bl x) (.type "bool")
 |int (i:Int):i9 K H (.int i) (.type "int")
 |str (x:Str):i9 K H (.str x) (.type "str")
 |flt (x:UInt64):i9 K H (.flt x) (.type "float")
 |lst {a:Addr} {xs:List V} (e:H a=some (.lst xs)):i9 K H (.ref a) (.type "list")
 |frz {a:Addr} {o:Obj} {xs:List V} (e:H a=some (.frz o (.lst xs))):i9 K H (.ref a) (.type "list")
 |tup {a:Addr} {xs:List V} (e:H a=some (.tup xs)):i9 K H (.ref a) (.type "tuple")
 |dK {a:Addr} {kvs:List (fk×V)} (e:H a=some (.dK kvs)):i9 K H (.ref a) (.type "dict")
 |dT {a:Addr} {kvs:List (List fk×V)} (e:H a=some (.dT kvs)):i9 K H (.ref a) (.type "dict")
 |ins {a C dx:Addr} {fs:List (Str×V)} (e:H a=some (.ins C dx fs)) (cl:m9 K C) (ha:PySem.W.findIn K (.ref C) "__class__"=some (some (.builtin "object.__class__")))
   (hn:PySem.W.specialIn K (.builtin "object.__class__") "__get__"=some (some (.builtin "getset_descriptor.__get__"))) (htk:PySem.W.takesIn K (.builtin "object.__class__")=some true)
   (hm:PySem.W.mroIn K C (.type "object")=some true):i9 K H (.ref a) (.ref C)
theorem yU{x:V}{u t:Value}(I:Inv X pins σ H s)(rx:bq x u)(ty:i9 X.K H x t)(e:PySem.W.kitOne X.K t c=some b)(h:∀tk,Q (.bool b) {s with toks:=tk}) :
  wpAny (model X.prog X.w) A (call (.builtin "isinstance") [u,c]) Q E s:=by
 cases ty with
 |non=>cases(show u=Value.none from rx);exact PySem.W.kia_one PySem.W.kitx_none I.kIn True.intro e (λz=>nomatch z) h
 |bl y=>cases(show u=Value.bool y from rx);exact PySem.W.kia_one PySem.W.kitx_bool I.kIn True.intro e (λz=>nomatch z) h
 |int i=>obtain⟨t,q⟩:=(show ∃t,u=Value.int i t from rx);cases q;exact PySem.W.kia_one PySem.W.kitx_int I.kIn True.intro e (λz=>nomatch z) h
 |str y=>obtain⟨t,q⟩:=(show ∃t,u=Value.str y t from rx);cases q;exact PySem.W.kia_one PySem.W.kitx_str I.kIn True.intro e (λz=>nomatch z) h
 |flt y=>obtain⟨t,q⟩:=(show ∃t,u=Value.float y t from rx);cases q;exact PySem.W.kia_one PySem.W.kitx_float I.kIn True.intro e (λz=>nomatch z) h
 | @lst a xs ea=>
  cases(show u=Value.ref a from rx);obtain⟨_,_,n,_,h1⟩:=(show bt X.prog X.w H s.heap a (.lst xs) from I.hok a _ ea);exact PySem.W.kia_one PySem.W.kitx_list I.kIn ⟨_,h1,rfl⟩ e (λz=>nomatch z) h
 | @frz a ob xs ea=>
  cases(show u=Value.ref a from rx);obtain⟨_,_,_,n,_,h1⟩:=(show bt X.prog X.w H s.heap a (.frz ob (.lst xs)) from I.hok a _ ea);exact PySem.W.kia_one PySem.W.kitx_list I.kIn ⟨_,h1,rfl⟩ e (λz=>nomatch z) h
 | @tup a xs ea=>
  cases(show u=Value.ref a from rx);obtain⟨_,_,_,p⟩:=(show bt X.prog X.w H s.heap a (.tup xs) from I.hok a _ ea);obtain⟨o,h1,h2,_⟩:=p;exact PySem.W.kia_one PySem.W.kitx_tuple I.kIn ⟨o,h1,h2⟩ e (λz=>nomatch z) h
 | @dK a kvs ea=>
  cases(show u=Value.ref a from rx);obtain⟨_,_,vs,_,p⟩:=(show bt X.prog X.w H s.heap a (.dK kvs) from I.hok a _ ea);obtain⟨o,es,ep,h1,h2,_⟩:=p;exact PySem.W.kia_one PySem.W.kitx_dict I.kIn ⟨o,h1,h2.1⟩ e (λz=>nomatch z) h
 | @dT a kvs ea=>
  cases(show u=Value.ref a from rx);obtain⟨_,_,xs,_,o,es,ep,h1,h2,_⟩:=(show bt X.prog X.w H s.heap a (.dT kvs) from I.hok a _ ea);exact PySem.W.kia_one PySem.W.kitx_dict I.kIn ⟨o,h1,h2.1⟩ e (λz=>nomatch z) h
 | @ins a C dx fs ea cl ha hn htk hm=>
  cases(show u=Value.ref a from rx);obtain⟨mA,O,_⟩:=mR I.hok ea;obtain⟨od,J,_⟩:=O.look;exact PySem.W.kia_one (PySem.W.kitx_own (cl.get _) cl.hd ha hn htk hm) I.kIn J e (λz=>nomatch z) h
end
structure b_(k:Nat)(A:J8):Prop where
 hd:A.handled=none
 dp:A.depth+3*k+5<recursionLimit
 un:A.units+16*k+200<cLine
theorem b_.mono{j k:Nat}{A:J8}(r:b_ k A)(h:j<=k):b_ j A:=⟨r.hd,by have:=r.dp;omega,by have:=r.un;omega⟩
theorem b_.deeper{k:Nat}{A:J8}(r:b_ (k+1) A)(env:Env):b_ k (A.deeper env):=
 ⟨r.hd,by have:=r.dp;show A.depth+1+3*k+5<_;omega,by have:=r.un;show A.units+3+16*k+200<_;omega⟩
theorem nu{A:J8}{C:Addr}{us:JX}{kw:List (Str×Value)}:(A.under (.builtin "type.__call__" ⟨.ref C::us,kw⟩)).depth=A.depth+1:=by
 first | rfl | simp[Around.under,Code.weight,Code.isCreation,Code.isGuard,Code.isCaller,Code.frames,Code.isFrame,guardIds]
theorem oS{A:J8}{C:Addr}{us:JX}{kw:List (Str×Value)}:(A.under (.builtin "type.__call__" ⟨.ref C::us,kw⟩)).units=A.units+1:=by
 first | rfl | simp[Around.under,Code.cUnits,Code.frames,Code.isFrame]
theorem b_.make{k:Nat}{A:J8}(r:b_ (k+1) A)(C:Addr)(us:JX)(kw:List (Str×Value)):b_ k (A.under (.builtin "type.__call__" ⟨.ref C::us,kw⟩)):=
 ⟨r.hd,by have:=r.dp;rw[nu];omega,by have:=r.un;rw[oS];omega⟩
theorem b_.depth{k:Nat}{A:J8}(r:b_ k A):A.depth<recursionLimit:=by have:=r.dp;omega
theorem b_.units{k:Nat}{A:J8}(r:b_ k A):A.units+64<cLine:=by have:=r.un;omega
noncomputable def nN:TA:=λ_ H Q=>Q [] H
noncomputable def hZ(ta:TE)(tr:TA):TA:=λσ H Q=>ta σ H λx H1=>tr σ H1 λxs H2=>Q (x::xs) H2
section
variable {X:Cx}{e:Expr}{es:Kb}{te:TE}{t:TA}{pos:Pos}
theorem ad:PA X [] nN:=λ_ _ _ _ H Q I h=>Calls.spliced_nil ⟨[],H,I,.nil,h⟩
theorem aa(ha:PE X e te)(hr:PA X es t)(hs:autoParam (starEach (e::es) X.env=(false,eval e X.env)::starEach es X.env) zz0._auto_1):PA X (e::es) (hZ te t):=by
 intro pos pins s σ H Q I h;rw[hs];show wpAny _ _ (spliced ((false,eval e X.env)::backTo pos (starEach es X.env))) _ _ s;refine Calls.spliced_cons (bM (ha pins s σ H _ I h) λu s1 ⟨x,H1,I1,r1,q1⟩=>?_);exact bM (hr pos pins s1 σ H1 _ I1 q1) λus s2 ⟨xs,H2,I2,r2,q2⟩=>⟨x::xs,H2,I2,.cons r1 r2,q2⟩
noncomputable def BV(t:TA):TE:=λσ H Q=>t σ H λxs H1=>xs.length<=sizeLine/\∀p,H1 p=none->Q (.ref p) (aC H1 p (.tup xs))
noncomputable def Ad(t:TA):TE:=λσ H Q=>t σ H λxs H1=>xs.length<=sizeLine/\∀p,H1 p=none->Q (.ref p) (aC H1 p (.lst xs))
theorem aP{x1}(h:PA X es t):PE X (.Tuple es x1 pos) (BV t):=by
 intro pins s σ H Q I hq;refine wpAny_Tuple_spliced (bM (h pos pins s σ H _ I hq) λus s1 ⟨xs,H1,I1,r,z,q⟩=>⟨by rw[<- r.length];exact z,?_⟩);have hf:H1 s1.heap.objs.size=none:=I1.hok.fresh (Jo _);refine⟨.ref s1.heap.objs.size,aC H1 s1.heap.objs.size (.tup xs),I1.laid (t':=s1.toks) (λb u e=>IS _ e) (Jo _) ?_,rfl,q _ hf⟩;exact⟨z,us,r,⟨_,IY _ rfl,rfl,_,rfl⟩⟩
theorem bw(h:PA X es t):PE X (.List es pos) (Ad t):=by
 intro pins s σ H Q I hq;refine wpAny_List_spliced (bM (h pos pins s σ H _ I hq) λus s1 ⟨xs,H1,I1,r,z,q⟩=>⟨by rw[<- r.length];exact z,?_⟩);have hf:H1 s1.heap.objs.size=none:=I1.hok.fresh (Jo _);refine⟨.ref s1.heap.objs.size,aC H1 s1.heap.objs.size (.lst xs),I1.laid (t':=s1.toks) (λb u e=>IS _ e) (Jo _) ?_,rfl,q _ hf⟩;exact⟨z,us,0,r,IY _ rfl⟩
end
noncomputable abbrev Sp:=List V->Hp->VK->XK->Prop
noncomputable abbrev ia:=List Env->Hp->Shared->XK->Value->Shared->Prop
structure nQ(P:J3)(w:J9)(K:JT)(mg:JZ)(base:Heap)(A:J8)(outer:List Env)(s:JW)(H:Hp):Prop where
 frames:A.frames=some outer
 mod:Mod K mg base
 bs:∀b o,base.get? b=some o->s.heap.get? b=some o/\H b=none
 bsz:base.objs.size<=s.heap.objs.size
 funs:s.heap.FunFrames base outer
 frf:∀b∈gj outer,H b=none
 hok:jk P w H s.heap
 bare:AllBare s.gens
def CE(outer:List Env)(P:J3)(w:J9)(H:Hp)(s:JW)(Q:VK)(u:Value)(s':JW):Prop:=
 ∃v H',s'.os=s.os/\AllBare s'.gens/\Un (gj outer) [] H H' s.heap s'.heap/\jk P w H' s'.heap/\bq v u/\Q v H'
def CR(CX:ia)(outer:List Env)(P:J3)(w:J9)(H:Hp)(s:JW)(Q:VK)(E:XK)(r:Result)(s':JW):Prop:=
 match r with
 | .ok (.ret u)=>CE outer P w H s Q u s'
 | .ok _=>False
 | .error e=>CX outer H s E e s'
structure bb(P:J3)(w:J9)(K:JT)(mg:JZ)(base:Heap)(CX:ia)(k:Nat)(f:Addr)(fd:J0)(ps:J4)(sp:Sp):Prop where
 len:∀vs H Q E,sp vs H Q E->vs.length=ps.length
 run:∀(A:J8) (outer:List Env) (s:JW) (H:Hp) (args:Args) (us:JX) (vs:List V) (Q:VK) (E:XK),b_ k A->nQ P w K mg base A outer s H->BindsTo s fd args (ps.zip us)->aY vs us->sp vs H Q E ->
  codeAny (model P w) A (.call (.ref f) args) (CR CX outer P w H s Q E) s
theorem bb.mono{P:J3}{w:J9}{K:JT}{mg:JZ}{base:Heap}{CX:ia}{j k:Nat}{f:Addr}{fd:J0}{ps:J4}{sp:Sp}(F:bb P w K mg base CX j f fd ps sp)(h:j<=k) :
  bb P w K mg base CX k f fd ps sp:=⟨F.len,λA outer s H args us vs Q E hr=>F.run A outer s H args us vs Q E (hr.mono h)⟩
theorem nQ.make{P:J3}{w:J9}{K:JT}{mg:JZ}{base:Heap}{A:J8}{outer:List Env}{s:JW}{H:Hp}(e:nQ P w K mg base A outer s H)(C:Addr)(us:JX)(kw:List (Str×Value)) :
  nQ P w K mg base (A.under (.builtin "type.__call__" ⟨.ref C::us,kw⟩)) outer s H:=⟨by first | exact e.frames | (simpa[Around.under,Code.envs,Code.isFrame,pushEnvs]using e.frames),e.mod,e.bs,e.bsz,e.funs,e.frf,e.hok,e.bare⟩
section
variable {X:Cx}{pins:JU}{σ:St}{H:Hp}{s s':JW}
theorem Inv.env0(I:Inv X pins σ H s):nQ X.prog X.w X.K X.mg X.base X.A X.stack s H:=
 ⟨I.ok.frames,I.ok.mod,I.bs,Jw I.ok.bsz I.sz,I.stack,I.stkFree,I.hok,I.bare⟩
theorem Inv.after{Q:VK}{u:Value}(I:Inv X pins σ H s)(h:CE X.stack X.prog X.w H s Q u s'):EP X pins σ Q u s':=by
 obtain⟨v,H',os,bare,un,hok,r,q⟩:=h;obtain⟨hh,g,d,t,os'⟩:=s';obtain rfl:os'=s.os:=os;exact⟨v,H',I.call (h':=hh) (g':=g) (d':=d) (t':=t) (ch:=[]) un hok bare (λb z=>absurd z (by simp)),r,q⟩
end
noncomputable def ml(sp:Sp)(dvs:List V)(E:XK)(t:TA):TE:=λσ H Q=>t σ H λvs H1=>sp (vs++dvs) H1 Q E
noncomputable def qz(C:Addr)(m:Str)(sp:Sp)(dvs:List V)(E:XK)(ta:TE)(t:TA):TE:=λσ H Q=>ta σ H λx H1=>∃a dx fs,x=.ref a/\H1 a=some (.ins C dx fs)/\fs.lookup m=none /\
 t σ H1 λvs H2=>sp (x::(vs++dvs)) H2 Q E
noncomputable def xj(C:Addr)(sp:Sp)(dvs:List V)(E:XK)(t:TA):TE:=λσ H Q=>t σ H λvs H1=>∀x dx,H1 x=none->H1 dx=none->dx≠x ->
 sp (.ref x::(vs++dvs)) (aC (aC H1 dx (.own x)) x (.ins C dx [])) (λv H2=>v=.non/\Q (.ref x) H2) E
def cI(K:JT)(fd:J0)(ps:J4)(ds:JX):Prop:=
 ∀(s:JW) (us:JX),K.In s.heap->(us++ds).length=ps.length->BindsTo s fd ⟨us,[]⟩ (ps.zip (us++ds))
theorem cI.all{K:JT}{fd:J0}{ps:J4}(h:∀us:List Value,us.length=ps.length->bindArgs fd ⟨us,[]⟩=pure (ps.zip us)):cI K fd ps []:=λs us _ hl=>by
 rw[Jz]at hl ⊢;exact .of_eq (h us hl)
def cu(CX:ia)(X:Cx)(E:XK):Prop:=∀(pins:JU) (σ:St) (H:Hp) (s:JW) (e:Value) (s':JW),Inv X pins σ H s->CX X.stack H s E e s'->X.xe e s'
section
variable {X:Cx}{CX:ia}{k:Nat}{f C:Addr}{fd:J0}{ps:J4}{sp:Sp}{dvs:List V}{ds:JX}{E:XK}{x m:Str}{p pos apos:Pos}{e o:Expr}{es:Kb}{ta:TE}{t:TA}
theorem lE{pins:JU}{σ:St}{H:Hp}{s:JW}{Q:VK}{us:JX}{vs:List V}(F:bb X.prog X.w X.K X.mg X.base CX k f fd ps sp)(hr:b_ k X.A)(hb:cI X.K fd ps ds)(hd:aY dvs ds)(hx:cu CX X E)
  (I:Inv X pins σ H s) (r:aY vs us) (h:sp (vs++dvs) H Q E):wpAny (model X.prog X.w) X.A (call (.ref f) us) (EP X pins σ Q) X.xe s:=by
 have r2:aY (vs++dvs) (us++ds):=r.append hd;have hl:(us++ds).length=ps.length:=by rw[<- r2.length];exact F.len _ _ _ _ h
 refine wpAny_call (codeAny_mono (F.run X.A X.stack s H ⟨us,[]⟩ (us++ds) (vs++dvs) Q E hr I.env0 (hb s us I.kIn hl) r2 h) λr s' hq=>?_);cases r with
 |error e=>exact hx pins σ H s e s' I hq
 |ok fl=>
  cases fl with
  |ret u=>exact I.after hq
  |next=>exact False.elim hq
  |brk=>exact False.elim hq
  |cont=>exact False.elim hq
theorem CH(F:bb X.prog X.w X.K X.mg X.base CX k f fd ps sp)(hr:b_ k X.A)(hg:Gl X x)(hm:X.mg x=some (.ref f))(hk:PySem.W.keepIn X.K (.ref f)=true)(hb:cI X.K fd ps ds)(hd:aY dvs ds)(hx:cu CX X E)
  (ha:PA X (e::es) t) (hdb:autoParam ((x==("__debug__":Str))=false) zz1._auto_1) (he:autoParam (starEach (e::es) X.env=(false,eval e X.env)::starEach es X.env) zz0._auto_1) (hpl:autoParam ((backTo pos (starEach es X.env)).any (·.1)=false) zz0._auto_1) :
  PE X (.Call (.Name x p) (e::es) [] pos) (ml sp dvs E t):=by
 intro pins s σ H Q I h;refine wpAny_Call_Name_kw (dW I hg hm ?_ hdb);refine PySem.W.callWith_K (h₀:=X.base) I.ok.mod.kin hk (bM (ha pos pins s σ H _ I h) λus s1 ⟨vs,H1,I1,r,q⟩=>⟨I1.kIn,?_⟩) he hpl;exact lE F hr hb hd hx I1 r q
theorem CO{pl:Sem Bool}(he:PE X o ta)(c:m9 X.K C)(hm:jD X.K C m f)(F:bb X.prog X.w X.K X.mg X.base CX k f fd ps sp)(hr:b_ k X.A)(hb:cI X.K fd ps ds)(hd:aY dvs ds)(hx:cu CX X E)(ha:PA X (e::es) t)
  (hst:autoParam (starEach (e::es) X.env=(false,eval e X.env)::starEach es X.env) zz0._auto_1) (hpl:autoParam ((backTo pos (starEach es X.env)).any (·.1)=false) zz0._auto_1)
  (ht:autoParam (eval (.Call (.Attribute o m apos) (e::es) [] pos) X.env=(do
   let ov <- eval o X.env
   standAt apos.atName
   let (f,first) <- holding [ov] (getMethod ov m pl)
   callWith pos f first (backTo pos (starEach (e::es) X.env)) (backToKw pos (keywordEach [] X.env)))) zz0._auto_1) :
  PE X (.Call (.Attribute o m apos) (e::es) [] pos) (qz C m sp dvs E ta t):=by
 intro pins s σ H Q I h;refine PySem.W.methodCall_KW (pl:=pl) (bM (he pins s σ H _ I h) λu s1 ⟨x,H1,I1,rx,a,dx,fs,ex,ea,l,q⟩=>?_) ht;subst ex;obtain rfl:u=Value.ref a:=rx;refine dO I1 ea c hm l ?_;refine PySem.W.callWith_K (first:=[.ref a]) (h₀:=X.base) I.ok.mod.kin hm.kp (bM (ha pos pins s1 σ H1 _ I1 q) λus s2 ⟨vs,H2,I2,r,q2⟩=>⟨I2.kIn,?_⟩) hst hpl;exact lE (us:=.ref a::us) (vs:=.ref a::vs) F hr hb hd hx I2 (.cons rfl r) q2
theorem As{pl:Sem Bool}(he:PE X o ta)(c:m9 X.K C)(hm:jD X.K C m f)(F:bb X.prog X.w X.K X.mg X.base CX k f fd ps sp)(hr:b_ k X.A)(hb:cI X.K fd ps ds)(hd:aY dvs ds)(hx:cu CX X E)
  (ht:autoParam (eval (.Call (.Attribute o m apos) [] [] pos) X.env=(do
   let ov <- eval o X.env
   standAt apos.atName
   let (f,first) <- holding [ov] (getMethod ov m pl)
   callWith pos f first (backTo pos (starEach [] X.env)) (backToKw pos (keywordEach [] X.env)))) zz0._auto_1) :
  PE X (.Call (.Attribute o m apos) [] [] pos) (qz C m sp dvs E ta nN):=by
 intro pins s σ H Q I h;refine PySem.W.methodCall_KW (pl:=pl) (bM (he pins s σ H _ I h) λu s1 ⟨x,H1,I1,rx,a,dx,fs,ex,ea,l,q⟩=>?_) ht;subst ex;obtain rfl:u=Value.ref a:=rx;refine dO I1 ea c hm l ?_;exact PySem.W.callWith_K0 (first:=[.ref a]) I1.kIn hm.kp (lE (us:=[.ref a]) (vs:=[.ref a]) F hr hb hd hx I1 (.cons rfl .nil) q)
structure Mk(K:JT)(C f:Addr):Prop where
 makes:PySem.W.makesIn K C=true
 init:PySem.W.findIn K (.ref C) "__init__"=some (some (.ref f))
 fn:PySem.W.isFn K (.ref f)=true
 kp:PySem.W.keepIn K (.ref C)=true
theorem zo{pins:JU}{σ:St}{H:Hp}{s:JW}{Q:VK}{us:JX}{vs:List V}(M:Mk X.K C f)(F:bb X.prog X.w X.K X.mg X.base CX k f fd ps sp)(hr:b_ (k+1) X.A)(hb:cI X.K fd ps ds)(hd:aY dvs ds)
  (hx:cu CX X E) (I:Inv X pins σ H s) (r:aY vs us)
  (h:∀x dx,H x=none->H dx=none->dx≠x->sp (.ref x::(vs++dvs)) (aC (aC H dx (.own x)) x (.ins C dx [])) (λv H2=>v=.non/\Q (.ref x) H2) E) :
  wpAny (model X.prog X.w) X.A (call (.ref C) us) (EP X pins σ Q) X.xe s:=by
 have hq:=h (s.heap.objs.size+1) s.heap.objs.size (I.hok.fresh (Nat.le_succ _)) (I.hok.fresh (Jo _)) (Jk (Jy _));have I2:=Inv.made (C:=C) I;have r2:aY (V.ref (s.heap.objs.size+1)::(vs++dvs)) (Value.ref (s.heap.objs.size+1)::(us++ds)):=.cons rfl (r.append hd);have hl:(Value.ref (s.heap.objs.size+1)::us++ds).length=ps.length:=by
  have e:=r2.length;rw[F.len _ _ _ _ hq]at e;exact e.symm
 refine wpAny_call (zT (f:=f) I.kIn M.makes M.init (beq_iff_eq.mp M.fn) (codeAny_mono (F.run _ X.stack _ _ ⟨Value.ref (s.heap.objs.size+1)::us,[]⟩ (Value.ref (s.heap.objs.size+1)::(us++ds)) _ _ E (hr.make C us [])
  (I2.env0.make C us []) (hb _ (Value.ref (s.heap.objs.size+1)::us) I2.kIn hl) r2 hq) λr s' hq'=>?_))
 cases r with
 |error e=>exact hx pins σ _ _ e s' I2 hq'
 |ok fl=>
  cases fl with
  |ret u=>
   obtain⟨v,H',I3,rv,ev,q3⟩:=I2.after hq';subst ev;exact⟨rv,⟨V.ref (s.heap.objs.size+1),H',I3,rfl,q3⟩⟩
  |next=>exact False.elim hq'
  |brk=>exact False.elim hq'
  |cont=>exact False.elim hq'
theorem CJ(M:Mk X.K C f)(F:bb X.prog X.w X.K X.mg X.base CX k f fd ps sp)(hr:b_ (k+1) X.A)(hg:Gl X x)(hm:X.mg x=some (.ref C))(hb:cI X.K fd ps ds)(hd:aY dvs ds)(hx:cu CX X E)
  (ha:PA X (e::es) t) (hdb:autoParam ((x==("__debug__":Str))=false) zz1._auto_1) (he:autoParam (starEach (e::es) X.env=(false,eval e X.env)::starEach es X.env) zz0._auto_1) (hpl:autoParam ((backTo pos (starEach es X.env)).any (·.1)=false) zz0._auto_1) :
  PE X (.Call (.Name x p) (e::es) [] pos) (xj C sp dvs E t):=by
 intro pins s σ H Q I h;refine wpAny_Call_Name_kw (dW I hg hm ?_ hdb);refine PySem.W.callWith_K (h₀:=X.base) I.ok.mod.kin M.kp (bM (ha pos pins s σ H _ I h) λus s1 ⟨vs,H1,I1,r,q⟩=>⟨I1.kIn,?_⟩) he hpl;exact zo M F hr hb hd hx I1 r q
end
def PK(X:Cx)(kws:List Keyword)(t:TA):Prop:=
 ∀(pos:Pos) (pins:JU) (s:JW) (σ:St) (H:Hp) (Q:List V->Hp->Prop),Inv X pins σ H s->t σ H Q->wpAny (model X.prog X.w) X.A (evalAll ((backToKw pos (keywordEach kws X.env)).map (·.2))) (AP X pins σ Q) X.xe s
section
variable {X:Cx}{CX:ia}{k:Nat}{f C:Addr}{fd:J0}{ps ks:J4}{sp:Sp}{E:XK}{x m:Str}{p pos apos kpos:Pos}{e o:Expr}{es:Kb}{kws:List Keyword}{te ta:TE}{t tk:TA}{nm:Option Str}
theorem Dk:PK X [] nN:=λ_ _ _ _ H Q I h=>wpAny_evalAll_nil ⟨[],H,I,.nil,h⟩
theorem CD(ha:PE X e te)(hr:PK X kws t):PK X (⟨nm,e,kpos⟩::kws) (hZ te t):=by
 intro pos pins s σ H Q I h;show wpAny _ _ (evalAll ((do let v <- eval e X.env;standAt pos;pure v)::(backToKw pos (keywordEach kws X.env)).map (·.2))) _ _ s;refine wpAny_evalAll_cons (wpAny_bind (bM (ha pins s σ H _ I h) λu s1 ⟨x,H1,I1,r1,q1⟩=>wpAny_bind (wpAny_standAt (wpAny_pure ?_))));exact bM (hr pos pins s1 σ H1 _ I1 q1) λus s2 ⟨xs,H2,I2,r2,q2⟩=>⟨x::xs,H2,I2,.cons r1 r2,q2⟩
structure Fb(K:JT)(fd:J0)(ps ks:J4)(g:List Value->List Value->List Value)(gV:List V->List V->List V):Prop where
 to:∀(s:JW) (us ws:JX),K.In s.heap->(g us ws).length=ps.length->BindsTo s fd ⟨us,ks.zip ws⟩ (ps.zip (g us ws))
 rel:∀{vs:List V} {us:JX} {zs:List V} {ws:JX},aY vs us->aY zs ws->aY (gV vs zs) (g us ws)
variable {g:List Value->List Value->List Value}{gV:List V->List V->List V}
end
structure aE(N P:J4)(sc:Scope):Prop where
 kind:sc.kind=.function
 co:sc.isCoroutine=false
 gen:sc.isGenerator=false
 nd:N.Nodup
 pre:N.take P.length=P
 par:∀x∈P,sc.names.lookup x=some .local\/sc.names.lookup x=some .cell
 nofree:∀y∈sc.names,y.2≠.free
theorem pQ{kindOf:Str->Option NameKind}{x:Str}:∀{binds:List (Str×Value)} {m:JZ},(∀v,(x,v)∉binds)->bindL kindOf binds m x=m x
 | [],_,_=>rfl
 | (n,v)::r,m,h=>by
  unfold bindL;rw[pQ λw hw=>h w (Jh _ hw)]
  split
  ·have:x≠n:=by rintro rfl;exact h v List.mem_cons_self
   simp[this]
  ·rfl
theorem pX{kindOf:Str->Option NameKind}{x:Str}:∀{binds:List (Str×Value)} {m:JZ},(∀v,(x,v)∉binds)->bindC kindOf binds m x=m x
 | [],_,_=>rfl
 | (n,v)::r,m,h=>by
  unfold bindC;rw[pX λw hw=>h w (Jh _ hw)]
  split
  ·rfl
  ·have:x≠n:=by rintro rfl;exact h v List.mem_cons_self
   simp[this]
theorem qd{kindOf:Str->Option NameKind}{x:Str}{v:Value}:∀{P:J4} {vs:JX} {i:Nat} {m:JZ},P.Nodup->P[i]?=some x->vs[i]?=some v->kindOf x=some .local ->
  bindL kindOf (P.zip vs) m x=some v
 | [],_,_,_,_,h,_,_=>by simp at h
 |_::_,[],_,_,_,_,h,_=>by simp at h
 |p::P,w::vs,0,m,nd,h1,h2,hk=>by
  simp at h1 h2;subst h1;subst h2
  show bindL kindOf ((p,w)::P.zip vs) m p=_;unfold bindL;rw[pQ λv hv=>(List.nodup_cons.mp nd).1 (List.of_mem_zip hv).1,if_pos hk];simp
 |p::P,w::vs,i+1,m,nd,h1,h2,hk=>by
  show bindL kindOf ((p,w)::P.zip vs) m x=_;unfold bindL;exact qd (i:=i) (List.nodup_cons.mp nd).2 (by simpa using h1) (by simpa using h2) hk
theorem p_{kindOf:Str->Option NameKind}{x:Str}{v:Value}:∀{P:J4} {vs:JX} {i:Nat} {m:JZ},P.Nodup->P[i]?=some x->vs[i]?=some v->kindOf x≠some .local ->
  bindC kindOf (P.zip vs) m x=some v
 | [],_,_,_,_,h,_,_=>by simp at h
 |_::_,[],_,_,_,_,h,_=>by simp at h
 |p::P,w::vs,0,m,nd,h1,h2,hk=>by
  simp at h1 h2;subst h1;subst h2
  show bindC kindOf ((p,w)::P.zip vs) m p=_;unfold bindC;rw[pX λv hv=>(List.nodup_cons.mp nd).1 (List.of_mem_zip hv).1,if_neg hk];simp
 |p::P,w::vs,i+1,m,nd,h1,h2,hk=>by
  show bindC kindOf ((p,w)::P.zip vs) m x=_;unfold bindC;exact p_ (i:=i) (List.nodup_cons.mp nd).2 (by simpa using h1) (by simpa using h2) hk
noncomputable def start(N:J4)(vs:List V):St:=vs.map some++List.replicate (N.length-vs.length) none
noncomputable def cW(CX:ia)(P:J3)(w:J9)(K:JT)(mg:JZ)(base:Heap)(N:J4)(qual:Str)(scope:Scope)(f:Addr)(cd:Value)(A:J8)(outer:List Env)(s:JW)(H:Hp)(E:XK):Cx where
 prog:=P
 w:=w
 K:=K
 mg:=mg
 base:=base
 A:=A.deeper (envOfC qual scope s.heap.objs.size f cd)
 N:=N
 s₀:=s
 H₀:=H
 env:=envOfC qual scope s.heap.objs.size f cd
 outer:=outer
 stack:=envOfC qual scope s.heap.objs.size f cd::outer
 ex:=[]
 calm:=true
 fn:=λ_=>true
 pn:=[]
 xe:=λe s'=>wpAny (model P w) (A.deeper (envOfC qual scope s.heap.objs.size f cd)) (leaving (envOfC qual scope s.heap.objs.size f cd) e) (λ_ s''=>CX outer H s E e s'') (λe' s''=>CX outer H s E e' s'') s'
theorem tJ{sc:Scope}{n:Nat}{x:Str}(h:sc.names.lookup x=some .cell):∃c,(cellsFrom n sc.names []).lookup x=some c:=by
 have q:=PySem.W.cellsFrom_some sc.names n [] (.inl h);exact Option.isSome_iff_exists.mp q
theorem pN{CX:ia}{P:J3}{w:J9}{K:JT}{mg:JZ}{base:Heap}{N ps:J4}{qual:Str}{scope:Scope}{f:Addr}{cd:Value}{A:J8}{outer:List Env}{s s1:JW}{H:Hp}{E:XK}{us:JX}{vs:List V}
  (S:aE N ps scope) (hd:A.handled=none) (e0:nQ P w K mg base A outer s H) (hl:vs.length=ps.length) (r:aY vs us)
  (x:InCallC s s.heap.objs.size (bindL (envOfC qual scope s.heap.objs.size f cd).kindOf (ps.zip us) λ_=>none) (cellsFrom (s.heap.objs.size+1) scope.names []) (bindC (envOfC qual scope s.heap.objs.size f cd).kindOf (ps.zip us) λ_=>none) s1) :
  Inv (cW CX P w K mg base N qual scope f cd A outer s H E) [] (start N vs) H s1:=by
 have hpl:ps.length<=N.length:=by have:=congrArg List.length S.pre;rw[JC]at this;omega
 obtain⟨h1,tk,rfl,hk⟩:=x.done;have noA:∀b:Addr,b∉(cW CX P w K mg base N qual scope f cd A outer s H E).ex:=λb z=>absurd (show b∈([]:List Addr) from z) (by simp);refine⟨⟨e0.mod,S.kind,rfl,rfl,Jo _,λy z c h1 h2=>?_,λy hy=>?_,λy c _ h=>?_,λ_=>hd,Around.frames_deeper e0.frames,.inr ⟨rfl,rfl⟩,λb z=>absurd z (noA b),e0.bs,e0.bsz,λb _ _=>noA b,λb z=>absurd z (noA b),e0.funs,e0.frf⟩,
  rfl,e0.bare,Un.kept hk,⟨_,x.toInCall.ns,λi y v h1 h2 h3=>?_⟩,λy c h=>⟨_,x.cell y c h⟩,e0.hok.fresh (Jo _),λy c h=>?_,λp hp=>absurd (show p∈([]:List (Addr×Obj)) from hp) (by simp),e0.hok.kept hk,?_⟩
 ·exact name_of_addr x.apart (PySem.mem_of_lookup h1) (PySem.mem_of_lookup h2)
 ·have hy:scope.names.lookup y=some .cell\/scope.names.lookup y=some .free:=hy
  rcases hy with hy | hy
  ·exact tJ hy
  ·exact absurd rfl (S.nofree _ (PySem.mem_of_lookup hy))
 ·exact Nat.le_of_lt (x.above y c (PySem.mem_of_lookup h))
 ·have hi:i<vs.length:=by
   unfold start at h2
   by_cases hi:i<vs.length
   ·exact hi
   ·rw[Jl (by simpa using hi)]at h2
    rw[List.getElem?_replicate]at h2
    split at h2<;>cases h2
  have ha:vs[i]?=some v:=by
   unfold start at h2;rw[Jm (by simpa using hi),IV]at h2;cases e:vs[i]? with
   |none=>rw[e]at h2;cases h2
   |some a=>rw[e]at h2;cases h2;rfl
  obtain⟨u,hu,rv⟩:=r.get ha;have hp:ps[i]?=some y:=by
   rw[<- S.pre,List.getElem?_take_of_lt ⋯];exact h1
  have ndP:ps.Nodup:=by rw[<- S.pre];exact S.nd.sublist (List.take_sublist _ _)
  refine⟨u,rv,?_⟩;rcases S.par y (IW hp) with k | k
  ·exact .inl ⟨k,qd ndP hp hu k⟩
  ·obtain⟨c,e⟩:=tJ (n:=s.heap.objs.size+1) k
   refine .inr ⟨.inl k,c,e,?_⟩;have q:=x.cell y c e;rw[p_ ndP hp hu (by show scope.names.lookup y≠_;rw[k];decide)]at q;exact q
 ·exact e0.hok.fresh (Nat.le_of_lt (x.above y c (PySem.mem_of_lookup h)))
 ·unfold start
  show _=N.length;rw[Jn,IT,List.length_replicate];omega
theorem AR{CX:ia}{P:J3}{w:J9}{K:JT}{mg:JZ}{base:Heap}{k:Nat}{f:Addr}{name qual:Str}{params:Arguments}{body:List Stmt}{scope:Scope}{dV kV doc pm cdv ct oc:Value}{an od:Ka}
  {osl:Array (Option Value)} {N ps:J4} {sp:Sp} (lk:K.lookup f=some ⟨oc,od,.func (PySem.W.fnOf name qual params body scope dV kV doc pm an cdv ct),osl⟩) (hcd:PySem.W.codeIn K cdv qual=true) (S:aE N ps scope)
  (len:∀vs H Q E,sp vs H Q E->vs.length=ps.length)
  (hbody:∀(A:J8) (outer:List Env) (s:JW) (H:Hp) (vs:List V) (Q:VK) (E:XK),b_ k (A.deeper (envOfC qual scope s.heap.objs.size f cdv))->sp vs H Q E ->
   ∃t,o9 (cW CX P w K mg base N qual scope f cdv A outer s H E) body t/\t {nx:=λ_ H'=>Q .non H',rt:=Q} (start N vs) H) :
  bb P w K mg base CX (k+1) f (PySem.W.fnOf name qual params body scope dV kV doc pm an cdv ct) ps sp:=by
 refine⟨len,λA outer s H args us vs Q E hr e0 hb r hsp=>?_⟩;have hl:=len _ _ _ _ hsp;have KX:K.In s.heap:=e0.mod.kin.keeps λb o e=>(e0.bs b o e).1;have lim:s.heap.NoLimit:=e0.mod.nolimit.keeps λb o e=>(e0.bs b o e).1;have hkind:∀y∈ps.zip us,scope.names.lookup y.1=some .local\/(scope.names.lookup y.1=some .cell/\((cellsFrom (s.heap.objs.size+1) scope.names []).lookup y.1).isSome=true):=λ⟨n,v⟩ hy=>by
  rcases S.par n (List.of_mem_zip hy).1 with q | q
  ·exact .inl q
  ·exact .inr ⟨q,PySem.W.cellsFrom_some _ _ _ (.inl q)⟩
 refine codeAny_call_function hr.depth (KX _ _ lk) rfl S.co S.gen rfl (PySem.W.codeRec_of KX hcd) (hb _ _ _ _ ?_);refine wpAny_newFunctionEnv_cells S.kind hkind λenv he s1 x=>?_;subst he;refine⟨lim.keeps x.toInCall.keep,codeAny_func ?_⟩;obtain⟨t,ht,hq⟩:=hbody A outer s H vs Q E (hr.deeper _) hsp;have I:Inv (cW CX P w K mg base N qual scope f cdv A outer s H E) [] (start N vs) H s1:=pN S hr.hd e0 hl r x;refine wpAny_mono (ht [] s1 (start N vs) H _ I hq) (λfl s' hs=>?_) λe s' hs=>hs;have fin:∀{σ':St} {H':Hp} {v:V} {u:Value},Inv (cW CX P w K mg base N qual scope f cdv A outer s H E) [] σ' H' s'->bq v u->Q v H'->CE outer P w H s Q u s':=
  fun{σ' H' v u} J rv q=>⟨v,H',J.os,J.bare,J.base,J.hok,rv,q⟩
 cases fl with
 |ret u=>
  obtain⟨v,σ',H',J,rv,q⟩:=hs;exact fin J rv q
 |next=>
  obtain⟨σ',H',J,q⟩:=hs;exact fin (v:=V.non) (u:=Value.none) J rfl q
 |brk=>
  obtain⟨_,_,_,q⟩:=hs;exact False.elim q
 |cont=>
  obtain⟨_,_,_,q⟩:=hs;exact False.elim q
section
variable {X:Cx}{x:Str}{p pos:Pos}{e:Expr}{es:Kb}{t:TA}{id T:String}{r:List V->Hp->VK->Prop}
noncomputable def EW(r:List V->Hp->VK->Prop)(t:TA):TE:=λσ H Q=>t σ H λvs H1=>r vs H1 Q
theorem au(hc:fb X (.builtin id) r)(hg:Gl X x)(hm:X.mg x=none)(hv:bootBuiltins x=some (.builtin id))(ha:PA X (e::es) t)(hn:autoParam (x≠"__name__") zz1._auto_1)(hdb:autoParam ((x==("__debug__":Str))=false) zz1._auto_1)
  (he:autoParam (starEach (e::es) X.env=(false,eval e X.env)::starEach es X.env) zz0._auto_1) (hpl:autoParam ((backTo pos (starEach es X.env)).any (·.1)=false) zz0._auto_1):PE X (.Call (.Name x p) (e::es) [] pos) (EW r t):=by
 intro pins s σ H Q I h;refine wpAny_Call_Name_kw (b5 I hg hm hv ?_ hn hdb);exact PyProof.Rows.callWith_builtin1 (bM (ha pos pins s σ H _ I h) λus s1 ⟨vs,H1,I1,r1,q1⟩=>hc pins s1 σ H1 vs us Q I1 r1 q1) he hpl
theorem fZ(hc:fb X (.type T) r)(hg:Gl X x)(hm:X.mg x=none)(hv:bootBuiltins x=some (.type T))(ha:PA X (e::es) t)(hn:autoParam (x≠"__name__") zz1._auto_1)(hdb:autoParam ((x==("__debug__":Str))=false) zz1._auto_1)
  (he:autoParam (starEach (e::es) X.env=(false,eval e X.env)::starEach es X.env) zz0._auto_1) (hpl:autoParam ((backTo pos (starEach es X.env)).any (·.1)=false) zz0._auto_1):PE X (.Call (.Name x p) (e::es) [] pos) (EW r t):=by
 intro pins s σ H Q I h;refine wpAny_Call_Name_kw (b5 I hg hm hv ?_ hn hdb);exact PyProof.Rows.callWith_type1 (bM (ha pos pins s σ H _ I h) λus s1 ⟨vs,H1,I1,r1,q1⟩=>hc pins s1 σ H1 vs us Q I1 r1 q1) he hpl
end
end L2
namespace HT
open PySem PyProof.Rows
section
open PySem.SeqAt
open PySem.AutoSeq1 (wpAny_loadPart')
open PySem.MeetsSeq PySem.MeetsSeq2 PySem.MeetsSeq3
end
section
variable {prog:J3}{w:J9}{A:J8}{E:JS}{s:JW}
theorem cat_tup{t b:Addr}{vs ws:JX}{Q:JS}(ht:IsTup s.heap t vs.toArray)(hb:IsTup s.heap b ws.toArray)(hv:vs≠[])
  (h1:ws=[]->Q (.ref t) s) (h2:ws≠[]->Q (.ref s.heap.objs.size) {s with heap:=s.heap.push {cls:=.type "tuple",data:=.seq (vs++ws).toArray} })
  (hsz:vs.length+ws.length<=sizeLine):wpAny (model prog w) A (binaryOp .Add (.ref t) (.ref b)) Q E s:=by
 obtain⟨⟨cls,dd,data,sl⟩,ho,hc,n,hd⟩:=id ht;obtain⟨⟨cls2,dd2,data2,sl2⟩,ho2,hc2,n2,hd2⟩:=id hb;simp only at hc hd hc2 hd2;subst hc hd hc2 hd2;have e:vs.toArray++ws.toArray=(vs++ws).toArray:=by simp
 by_cases hw:ws=[]
 ·exact concat_meets ⟨_,ho,rfl⟩ ⟨_,ho2,rfl⟩ noFill_tuple_add seq_tuple_add PySem.F.slot_tuple_add PySem.F.entry_tuple_add (PySem.F.args_tuple_add_2 _ _)
   (tuple_addW1 t b vs.toArray ws.toArray n n2 dd dd2 sl sl2 (by simpa using hv) (by simp[hw])) ⟨ho,ho2,h1 hw⟩
 ·refine concat_meets ⟨_,ho,rfl⟩ ⟨_,ho2,rfl⟩ noFill_tuple_add seq_tuple_add PySem.F.slot_tuple_add PySem.F.entry_tuple_add (PySem.F.args_tuple_add_2 _ _)
   (tuple_addW2 t b vs.toArray ws.toArray n n2 dd dd2 sl sl2 (by simpa using hv) (by simpa using hw) (by rw[IZ,IZ];exact hsz)) ⟨ho,ho2,?_⟩
  rw[e];exact h2 hw
noncomputable def sIx(n d:Nat):Option Int->Nat
 |none=>d
 |some v=>if v<0 then(v+(n:Int)).toNat else min v.toNat n
theorem sIx_none(n d:Nat):sIx n d none=d:=rfl
theorem sIx_nat(n d k:Nat):sIx n d (some (k:Int))=min k n:=by
 show(if(k:Int)<0 then((k:Int)+(n:Int)).toNat else min (k:Int).toNat n)=min k n;rw[if_neg ⋯,Ja]
theorem Dm(n d:Nat)(hd:d<=n)(o:Option Int):sIx n d o<=n:=by
 cases o with
 |none=>exact hd
 |some v=>
  show(if v<0 then(v+(n:Int)).toNat else min v.toNat n)<=n
  by_cases hv:v<0
  ·rw[if_pos hv];omega
  ·rw[if_neg hv];exact Nat.min_le_right _ _
theorem wT(v:Int)(n d:Nat):(if v<0 then max (v+(n:Int)) 0 else min v (n:Int))=((sIx n d (some v):Nat):Int):=by
 show(if v<0 then max (v+(n:Int)) 0 else min v (n:Int))=(((if v<0 then(v+(n:Int)).toNat else min v.toNat n):Nat):Int)
 by_cases hv:v<0
 ·simp only[if_pos hv];omega
 ·simp only[if_neg hv];omega
theorem vM(lo hi:Option Int)(n:Nat):Builtin.Slice.sliceAdjust lo hi 1 (n:Int)=(((sIx n 0 lo:Nat):Int),((sIx n n hi:Nat):Int)):=by
 have h1:¬ ((1:Int)<0):=by omega
 unfold Builtin.Slice.sliceAdjust;simp only[h1,if_false];refine Prod.ext ?_ ?_
 ·cases lo with
  |none=>rfl
  |some v=>exact wT v n 0
 ·cases hi with
  |none=>rfl
  |some v=>exact wT v n n
theorem vD(i j:Nat):Builtin.Slice.slicePlaces (i:Int) (j:Int) 1=j-i:=by
 unfold Builtin.Slice.slicePlaces;have h1:(1:Int)>0:=by omega
 simp only[h1,if_true,Int.ediv_one]
 split<;>omega
theorem nL{v:Value}{o:Option Int}{Q:Option Int->Shared->Prop}(p:IsPart v o)(h:Q o s):wpAny (model prog w) A (Builtin.Slice.slicePartIndex v) Q E s:=by
 cases p with
 |none=>exact slicePart_none h
 |int i t=>exact slicePart_int h
theorem fX{sl:Addr}{vl vu:Value}{lo hi:Option Int}{n:Nat}{Q:Int×Int×Nat->Shared->Prop}(hs:s.heap.IsSliceOf sl vl vu .none)(pl:IsPart vl lo)(pu:IsPart vu hi)
  (h:Q (((sIx n 0 lo:Nat):Int),1,sIx n n hi-sIx n 0 lo) s):wpAny (model prog w) A (Builtin.Slice.sliceApplied (.ref sl) (pure (n:Int))) Q E s:=by
 obtain⟨os,hos,hcs,hds⟩:=id hs;unfold Builtin.Slice.sliceApplied Builtin.Slice.sliceFields;refine wpAny_bind (wpAny_bind (wpAny_field hos hds (x:=vl) rfl (wpAny_bind (wpAny_field hos hds (x:=vu) rfl (wpAny_bind (wpAny_field hos hds (x:=.none) rfl (wpAny_pure ?_)))))));refine wpAny_bind (slicePart_none ?_);show wpAny _ _ (if((1:Int)==0)=true then _ else _) _ _ s;rw[if_neg nofun];refine wpAny_bind (nL pl (wpAny_bind (nL pu (wpAny_bind (wpAny_pure ?_)))));show wpAny _ _ (match Builtin.Slice.sliceAdjust lo hi 1 (n:Int) with | (lo,hi)=>pure (lo,(1:Int),Builtin.Slice.slicePlaces lo hi 1)) _ _ s;rw[vM lo hi n];show wpAny _ _ (pure (((sIx n 0 lo:Nat):Int),(1:Int),Builtin.Slice.slicePlaces ((sIx n 0 lo:Nat):Int) ((sIx n n hi:Nat):Int) 1)) _ _ s;rw[vD];exact wpAny_pure h
theorem Ay(xs:Array Value)(i k:Nat):((List.range k).filterMap fun(m:Nat)=>xs[((i:Int)+(m:Int)*1).toNat]?).toArray=((xs.toList.drop i).take k).toArray:=by
 have e:(fun(m:Nat)=>xs[((i:Int)+(m:Int)*1).toNat]?)=λm=>xs[i+m]?:=by
  funext m
  have:((i:Int)+(m:Int)*1).toNat=i+m:=by omega
  rw[this]
 rw[e];have:=pick_run xs i k;rw[List.filterMap_map]at this;have e2:((λx=>xs[x]?)∘λx=>i+x)=λm=>xs[i+m]?:=rfl;rw[e2]at this;rw[this]
theorem getItem_tuple_cut{t sl:Addr}{items:Array Value}{vl vu:Value}{lo hi:Option Int}{Q:JS}(ht:IsTup s.heap t items)(hs:s.heap.IsSliceOf sl vl vu .none)(pl:IsPart vl lo)(pu:IsPart vu hi)
  (hw:¬ (sIx items.size 0 lo=0/\sIx items.size items.size hi=items.size))
  (h:Q (.ref s.heap.objs.size) {s with heap:=s.heap.push {cls:=.type "tuple",data:=.seq ((items.toList.drop (sIx items.size 0 lo)).take (sIx items.size items.size hi-sIx items.size 0 lo)).toArray} })
  (hsz:items.size<=sizeLine):wpAny (model prog w) A (getItem (.ref t) (.ref sl)) Q E s:=by
 have htake:sizeOk (.seq ((items.toList.drop (sIx items.size 0 lo)).take (sIx items.size items.size hi-sIx items.size 0 lo)).toArray):=by
  show((items.toList.drop (sIx items.size 0 lo)).take (sIx items.size items.size hi-sIx items.size 0 lo)).toArray.size<=sizeLine;rw[IZ,JC,List.length_drop,Array.length_toList];omega
 have hj:sIx items.size items.size hi<=items.size:=Dm _ _ (Jo _) hi;obtain⟨os,hos,hcs,hds⟩:=id hs;have hTs:s.TypeIs (.ref sl) "slice":=⟨os,hos,hcs⟩;unfold getItem
 try with_reducible refine wpAny_holding ?_
 first | refine wpAny_bind (wpAny_pure ?_) | skip
 refine wpAny_bind (wpAny_sequenceKey ht.typeIs nofun ?_);refine wpAny_bind (wpAny_callSpecial?_slot (name:=Str.ofString "__getitem__") ht.typeIs PyProof.Rows.slot_tuple_getitem
  (wpAny_call_entry PyProof.Rows.slot_tuple_getitem ht.typeIs entry_tuple_getitem ?_ (args_tuple_getitem _ _)))
 show wpAny _ _ (Builtin.Tuple.tupleItemsOf (.ref t) >>= _) _ _ s;refine wpAny_bind (tupleItemsOf_ ht ?_);refine wpAny_bind (wpAny_typeOf hTs ?_);rw[if_pos nofun];refine wpAny_bind (fX hs pl pu ?_);have hno:¬ ((((sIx items.size 0 lo:Nat):Int)==0&&(1:Int)==1&&(sIx items.size items.size hi-sIx items.size 0 lo)==items.size)=true):=by
  intro q;rw[Bool.and_eq_true,Bool.and_eq_true]at q;have q1:((sIx items.size 0 lo:Nat):Int)=0:=eq_of_beq q.1.1;have q2:sIx items.size items.size hi-sIx items.size 0 lo=items.size:=eq_of_beq q.2;exact hw ⟨⋯,⋯⟩
 show wpAny _ _ (if(((sIx items.size 0 lo:Nat):Int)==0&&(1:Int)==1&&(sIx items.size items.size hi-sIx items.size 0 lo)==items.size)=true then _ else _) _ _ s;rw[if_neg hno,Ay]
 first
  |exact wpAny_bind (m:=Builtin.Tuple.tupleExact _) (wpAny_newObj_type (wpAny_pure ⟨_,rfl,wpAny_pure h⟩) htake)
  |exact wpAny_bind (m:=Builtin.Tuple.tupleExact _) (wpAny_newObj_type (wpAny_bind (wpAny_pure (wpAny_pure ⟨_,rfl,wpAny_pure h⟩))) htake)
  |exact wpAny_bind (wpAny_bind (m:=Builtin.Tuple.tupleExact _) (wpAny_newObj_type (wpAny_pure (wpAny_pure ⟨_,rfl,wpAny_pure h⟩)) htake))
  |exact wpAny_bind (wpAny_bind (m:=Builtin.Tuple.tupleExact _) (wpAny_newObj_type (wpAny_pure ⟨_,rfl,wpAny_pure h⟩) htake))
end
end HT
namespace L2
open PySem PySem.Spec PyProof.Rows
noncomputable abbrev TO:=St->Hp->(Option Int->Hp->Prop)->Prop
def PO(X:Cx)(e:Option Expr)(t:TO):Prop:=
 ∀(pins:JU) (s:JW) (σ:St) (H:Hp) (Q:Option Int->Hp->Prop),Inv X pins σ H s->t σ H Q ->
  wpAny (model X.prog X.w) X.A (evalPart e X.env) (λu s'=>∃o H',Inv X pins σ H' s'/\IsPart u o/\Q o H') X.xe s
noncomputable def rS:TO:=λ_ H Q=>Q none H
noncomputable def zC(t:TE):TO:=λσ H Q=>t σ H λx H1=>∃i,x=.int i/\Q (some i) H1
section
variable {X:Cx}{e:Expr}{te:TE}{lo hi:Option Expr}{tl th:TO}{pos p2:Pos}
theorem cw:PO X none rS:=by
 intro pins s σ H Q I h;rw[evalPart_none];exact wpAny_pure ⟨none,H,I,.none,h⟩
theorem cv(h:PE X e te):PO X (some e) (zC te):=by
 intro pins s σ H Q I hw;rw[evalPart_some];refine bM (h pins s σ H _ I hw) λu s1 ⟨x,H1,I1,r1,q1⟩=>?_;obtain⟨i,rfl,q⟩:=q1;obtain⟨t,rfl⟩:=r1;exact⟨some i,H1,I1,.int i t,q⟩
def ES(X:Cx)(r:V->Option Int->Option Int->Hp->VK->Prop):Prop:=
 ∀(pins:JU) (s:JW) (σ:St) (H:Hp) (x:V) (v vl vu:Value) (lo hi:Option Int) (sl:Addr) (Q:VK),Inv X pins σ H s->bq x v->s.heap.IsSliceOf sl vl vu .none->IsPart vl lo->IsPart vu hi->r x lo hi H Q ->
  ∃T id,typeLookup (.type T) "__getitem__"=pure (some (.builtin id))/\s.TypeIs v T/\wpAny (model X.prog X.w) X.A (getItem v (.ref sl)) (EP X pins σ Q) X.xe s
noncomputable def E8(r:V->Option Int->Option Int->Hp->VK->Prop)(te:TE)(tl th:TO):TE:=λσ H Q=>te σ H λx H1=>tl σ H1 λl H2=>th σ H2 λu H3=>r x l u H3 Q
theorem bY{r:V->Option Int->Option Int->Hp->VK->Prop}(hr:ES X r)(he:PE X e te)(hl:PO X lo tl)(hu:PO X hi th):PE X (.Subscript e (.Slice lo hi none p2) pos) (E8 r te tl th):=by
 intro pins s σ H Q I h;refine Subscript_ (bM (he pins s σ H _ I h) λv s1 ⟨x,H1,I1,r1,q1⟩=>?_);refine wpAny_Slice (bM (hl pins s1 σ H1 _ I1 q1) λvl s2 ⟨l,H2,I2,pl,q2⟩=>bM (hu pins s2 σ H2 _ I2 q2) λvu s3 ⟨u,H3,I3,pu,q3⟩=>?_);rw[evalPart_none];refine wpAny_pure ?_;have I4:Inv X pins σ H3 {s3 with heap:=s3.heap.push {cls:=.type "slice",data:=.fields #[vl,vu,.none]} }:=I3.kept (t':=s3.toks) λb ob q=>IS _ q;obtain⟨T,id,hT,ht,hg⟩:=hr pins {s3 with heap:=s3.heap.push {cls:=.type "slice",data:=.fields #[vl,vu,.none]} } σ H3 x v vl vu l u s3.heap.objs.size Q I4 r1 (Heap.IsSliceOf.new ..) pl pu q3;show wpAny (model X.prog X.w) X.A (subscriptTail e (.Slice lo hi none p2) v (.ref s3.heap.objs.size)) (EP X pins σ Q) X.xe {s3 with heap:=s3.heap.push {cls:=.type "slice",data:=.fields #[vl,vu,.none]} };exact tail_any (ops:=[.ref s3.heap.objs.size,v]) ht hT hg (by with_unfolding_all rfl)
noncomputable def dE(xs:List V)(lo hi:Option Int):List V:=(xs.drop (HT.sIx xs.length 0 lo)).take (HT.sIx xs.length xs.length hi-HT.sIx xs.length 0 lo)
theorem iC(xs:List V)(lo hi:Option Int):(dE xs lo hi).length<=xs.length:=by
 unfold dE;rw[JC,List.length_drop];omega
noncomputable def Dp(K:JT):V->Option Int->Option Int->Hp->VK->Prop:=λx lo hi H Q=>∃a xs,x=.ref a/\bc K H a xs /\
 ¬ (HT.sIx xs.length 0 lo=0/\HT.sIx xs.length xs.length hi=xs.length)/\∀p,H p=none->Q (.ref p) (aC H p (.tup (dE xs lo hi)))
theorem lU:ES X (Dp X.K):=by
 intro pins s σ H x v vl vu lo hi sl Q I rx hs pl pu h;obtain⟨a,xs,rfl,hx,hw,q⟩:=h;cases rx;obtain⟨its,r,ht,hz⟩:=I.tuple hx;have hlen:its.toArray.size=xs.length:=by rw[IZ];exact r.length.symm
 refine⟨"tuple",_,PyProof.Rows.slot_tuple_getitem.lookup,ht.typeIs,?_⟩;refine HT.getItem_tuple_cut ht hs pl pu (by rw[hlen];exact hw) ?_ (by rw[hlen];exact hz);rw[hlen];refine⟨.ref s.heap.objs.size,_,I.laid (t':=s.toks) (o:=.tup (dE xs lo hi)) (λb ob q=>IS _ q) (Jo _) ?_,rfl,q _ (I.hok.fresh (Jo _))⟩;exact⟨Jw (iC xs lo hi) hz,_,(r.drop (HT.sIx xs.length 0 lo)).take (HT.sIx xs.length xs.length hi-HT.sIx xs.length 0 lo),IsTup.new _ _⟩
noncomputable def Aq(K:JT):R2:=λx y H Q=>∃a b xs ys,x=.ref a/\y=.ref b/\bc K H a xs/\bc K H b ys/\xs≠[]/\xs.length+ys.length<=sizeLine /\
 (ys=[]->Q (.ref a) H)/\(ys≠[]->∀p,H p=none->Q (.ref p) (aC H p (.tup (xs++ys))))
theorem aY.nil_iff{xs:List V}{us:JX}(r:aY xs us):us=[]↔xs=[]:=by
 cases r with
 |nil=>simp
 |cons _ _=>simp
theorem b8:aZ X (binaryOp .Add) (Aq X.K):=by
 intro pins s σ H x y v u Q I rx ry h;obtain⟨a,b,xs,ys,rfl,rfl,ha,hb,hx,hz,q1,q2⟩:=h;cases rx;cases ry;obtain⟨its,r1,p1,_⟩:=I.tuple ha;obtain⟨its2,r2,p2,_⟩:=I.tuple hb;refine HT.cat_tup p1 p2 (λz=>hx (r1.nil_iff.mp z)) (λz=>⟨.ref a,H,I,rfl,q1 (r2.nil_iff.mp z)⟩) (λz=>?_) (by rw[<- r1.length,<- r2.length];exact hz);refine⟨.ref s.heap.objs.size,_,I.laid (t':=s.toks) (o:=.tup (xs++ys)) (λb ob q=>IS _ q) (Jo _) ?_,rfl,q2 (λw=>z (r2.nil_iff.mpr w)) _ (I.hok.fresh (Jo _))⟩;exact⟨by rw[Jn];exact hz,_,r1.append r2,IsTup.new _ _⟩
end
noncomputable def BM(n:Nat)(i:Int):Option Nat:=if 0<=i then(if i<n then some i.toNat else none) else if -(n:Int)<=i then some (i+n).toNat else none
noncomputable def fC{α:Type}(xs:List α)(i:Int):Option α:=(BM xs.length i).bind λj=>xs[j]?
theorem wJ{n:Nat}{i:Int}{j:Nat}(h:BM n i=some j):seqIndex? i n=some j/\j<n/\-(n:Int)<=i/\i<n:=by
 unfold BM at h
 by_cases h0:0<=i
 ·rw[if_pos h0]at h
  by_cases h1:i<n
  ·rw[if_pos h1]at h
   have e:i.toNat=j:=Option.some.inj h;exact⟨by rw[seqIndex_of h0 h1,e],⋯,⋯,h1⟩
  ·rw[if_neg h1]at h;cases h
 ·rw[if_neg h0]at h
  by_cases h1:-(n:Int)<=i
  ·rw[if_pos h1]at h
   have e:(i+n).toNat=j:=Option.some.inj h;exact⟨by rw[seqIndex_neg ⋯ h1,e],⋯,h1,⋯⟩
  ·rw[if_neg h1]at h;cases h
theorem rm{α:Type}{xs:List α}{i:Int}{v:α}(h:fC xs i=some v):∃j,seqIndex? i xs.length=some j/\xs[j]?=some v/\j<xs.length/\-(xs.length:Int)<=i/\i<xs.length:=by
 unfold fC at h;cases e:BM xs.length i with
 |none=>rw[e]at h;cases h
 |some j=>
  rw[e]at h;obtain⟨h1,h2,h3,h4⟩:=wJ e;exact⟨j,h1,h,h2,h3,h4⟩
theorem aT{α:Type}{xs:List α}{j:Nat}{v:α}(h:xs[j]?=some v):fC xs (j:Int)=some v:=by
 have hj:j<xs.length:=(IR.mp h).1;have e:BM xs.length (j:Int)=some j:=by
  unfold BM;rw[if_pos ⋯,if_pos ⋯];simp
 unfold fC;rw[e];exact h
def xq(b:Expr):Prop:=∀o i,subscripted b false o i=operate [o,i] (getItem o i)
def Da(X:Cx)(r:R2):Prop:=
 ∀(value slice:Expr) (pins:JU) (s:JW) (σ:St) (H:Hp) (x y:V) (v u:Value) (Q:VK),Inv X pins σ H s->bq x v->bq y u->r x y H Q ->
  subscripted slice false v u=operate [v,u] (getItem v u)->wpAny (model X.prog X.w) X.A (subscriptTail value slice v u) (EP X pins σ Q) X.xe s
def Eo(X:Cx)(id:String)(r:V->List V->Hp->VK->Prop):Prop:=
 ∀(pins:JU) (s:JW) (σ:St) (H:Hp) (x:V) (xs:List V) (v:Value) (us:JX) (Q:VK),Inv X pins σ H s->bq x v->aY xs us->r x xs H Q ->
  wpAny (model X.prog X.w) X.A (call (.builtin id) (v::us)) (EP X pins σ Q) X.xe s
section
variable {X:Cx}{a b:Expr}{ta tb:TE}{pos:Pos}
theorem ay{r:R2}(hr:Da X r)(ha:PE X a ta)(hb:PE X b tb)(hs:xq b):PE X (.Subscript a b pos) (CW r ta tb):=by
 intro pins s σ H Q I h;exact Subscript_ (Dx ha hb I h λv u s2 x y H2 I2 rx ry q=>hr a b pins s2 σ H2 x y v u Q I2 rx ry q (hs _ _))
noncomputable def wF(K:JT):R2:=λx y H Q=>∃p xs i v,x=.ref p/\y=.int i/\aW K H p xs/\fC xs i=some v/\Q v H
noncomputable def wq(K:JT):R2:=λx y H Q=>∃p xs i v,x=.ref p/\y=.int i/\bc K H p xs/\fC xs i=some v/\Q v H
noncomputable def DK:R2:=λx y H Q=>∃z i c,x=.str z/\y=.int i/\z.length<=sizeLine/\fC z.cps.toList i=some c/\Q (.str ⟨#[c]⟩) H
theorem kj:Da X (wF X.K):=by
 intro value slice pins s σ H x y v u Q I rx ry h hs;obtain⟨p,xs,i,z,rfl,rfl,hq,he,q⟩:=h;cases rx;obtain⟨t,rfl⟩:=ry;obtain⟨its,r,pl,hz⟩:=I.list hq;obtain⟨j,h1,h2,h3,h4,h5⟩:=rm he;obtain⟨w,ew,rw'⟩:=r.get h2;have hl:=r.length;have hn:=lj;have fin:EP X pins σ Q w s:=⟨z,H,I,rw',q⟩
 by_cases h0:0<=i
 ·have hj:i.toNat=j:=by
   rw[seqIndex_of h0 h5]at h1;exact Option.some.inj h1
  exact item_listR pl.isList h0 ⋯ (by rw[hj];simpa using ew) fin hs
 ·have hj:(i+(its.toArray.size:Int)).toNat=j:=by
   rw[seqIndex_neg ⋯ h4]at h1;rw[IZ,<- hl];exact Option.some.inj h1
  exact subscriptTail_builtinR (x:=w) pl.isList.typeIs slot_list_getitem.lookup
   (wpAny_getItem_list_neg (Q:=λr s'=>r=w/\EP X pins σ Q r s') pl.isList ⋯ (by rw[IZ]<;>omega) ⋯ (by rw[hj];simpa using ew) ⟨rfl,fin⟩) hs
theorem zX:Da X (wq X.K):=by
 intro value slice pins s σ H x y v u Q I rx ry h hs;obtain⟨p,xs,i,z,rfl,rfl,hq,he,q⟩:=h;cases rx;obtain⟨t,rfl⟩:=ry;obtain⟨its,r,pl,hz⟩:=I.tuple hq;obtain⟨j,h1,h2,h3,h4,h5⟩:=rm he;obtain⟨w,ew,rw'⟩:=r.get h2;have hl:=r.length;have hn:=lj;have fin:EP X pins σ Q w s:=⟨z,H,I,rw',q⟩;exact subscriptTail_builtinR (x:=w) pl.typeIs slot_tuple_getitem.lookup
  (getItem_tuple (j:=j) (Q:=λr s'=>r=w/\EP X pins σ Q r s') pl ⋯ ⋯ (by rw[IZ,<- hl];exact h1) (by simpa using ew) ⟨rfl,fin⟩) hs
theorem le:Da X DK:=by
 intro value slice pins s σ H x y v u Q I rx ry h hs;obtain⟨z,i,c,rfl,rfl,hz,he,q⟩:=h;obtain⟨t,rfl⟩:=rx;obtain⟨t',rfl⟩:=ry;obtain⟨j,h1,h2,h3,h4,h5⟩:=rm he;have hl:z.cps.toList.length=z.length:=by simp[Str.length]
 rw[hl]at h1 h4 h5;have hn:=lj;exact tail_any (typeIs_str s z t) slot_str_getitem.lookup (getItem_str (c:=c) (by
  have e1:decide (i < -(2 ^ 63:Int))=false:=decide_eq_false ⋯;have e2:decide (i≥2 ^ 63)=false:=decide_eq_false ⋯;rw[e1,e2,Bool.or_false]) (by rw[h1];simpa using h2) ⟨.str ⟨#[c]⟩,H,I.tok _,⟨_,rfl⟩,q⟩) hs
theorem vS(its:JX)(n j:Nat)(u:Value):Obj.mapSeq (·.setIfInBounds j u) {cls:=.type "list",data:=.seq its.toArray n}={cls:=.type "list",data:=.seq (its.set j u).toArray n}:=by
 simp[Obj.mapSeq]
theorem Inv.lst{pins:JU}{σ:St}{H:Hp}{s:JW}{p:Addr}{xs:List V}(I:Inv X pins σ H s)(h:H p=some (.lst xs)) :
  ∃(its:JX) (n:Nat),aY xs its/\s.heap.get? p=some {cls:=.type "list",data:=.seq its.toArray n}/\xs.length<=sizeLine:=by
 obtain⟨z,its,n,r,e⟩:=I.hok p _ h;exact⟨its,n,r,e,z⟩
theorem Inv.lstUpd{pins:JU}{σ:St}{H:Hp}{s:JW}{p:Addr}{xs ys:List V}{its its':JX}{n n':Nat}{f:Obj->Obj}(I:Inv X pins σ H s)(h:H p=some (.lst xs))
  (ho:s.heap.get? p=some {cls:=.type "list",data:=.seq its.toArray n}) (hf:f {cls:=.type "list",data:=.seq its.toArray n}={cls:=.type "list",data:=.seq its'.toArray n' }) (r:aY ys its') (hz:ys.length<=sizeLine) (t:Nat) :
  Inv X pins σ (aC H p (.lst ys)) {s with heap:=s.heap.update p f,toks:=t}:=by
 have e:(s.heap.update p f).get? p=some {cls:=.type "list",data:=.seq its'.toArray n' }:=by
  rw[Jb f ho (by rw[hf]<;>rfl),hf]
 refine I.write (x:=p) (e:=p) (by rw[h];trivial) (.inl rfl) (λb u hb q=>(IX _ _ (Ne.symm hb)).trans q) ⟨_,e⟩ ?_;exact⟨hz,its',n',r,e⟩
noncomputable def zx:V->V->V->Hp->(Hp->Prop)->Prop:=λo i v H Q=>∃p xs k j,o=.ref p/\i=.int k/\H p=some (.lst xs)/\BM xs.length k=some j/\Q (aC H p (.lst (xs.set j v)))
theorem AN:EJ X zx:=by
 intro pins s σ H o i v ov iv u Q I ro ri rv h;obtain⟨p,xs,k,j,rfl,rfl,hp,hj,q⟩:=h;cases ro;obtain⟨t,rfl⟩:=ri;obtain⟨its,n,r,ho,hz⟩:=I.lst hp;obtain⟨h1,h2,h3,h4⟩:=wJ hj;have hl:=r.length;have hn:=lj;have I':Inv X pins σ (aC H p (.lst (xs.set j v))) {s with heap:=s.heap.update p (Obj.mapSeq (·.setIfInBounds j u))}:=
  I.lstUpd hp ho (vS its n j u) (r.set rv j) (by rw[JK];exact hz) s.toks
 by_cases h0:0<=k
 ·have hk:k.toNat=j:=by
   rw[seqIndex_of h0 h4]at h1;exact Option.some.inj h1
  exact PySem.W.ki_setAt ho h0 ⋯ (by rw[IZ,<- hl];exact h4) (by rw[hk];exact⟨_,I',q⟩)
 ·have hk:(k+(its.toArray.size:Int)).toNat=j:=by
   rw[seqIndex_neg ⋯ h3]at h1;rw[IZ,<- hl];exact Option.some.inj h1
  exact PySem.W.ki_setBack ho ⋯ (by rw[IZ,<- hl];exact h3) ⋯ (by rw[hk];exact⟨_,I',q⟩)
theorem r8(lo hi:Option Int)(n:Nat):(sliceBounds lo hi none n).1=((HT.sIx n 0 lo:Nat):Int)/\(sliceBounds lo hi none n).2.1=((HT.sIx n n hi:Nat):Int)/\(sliceBounds lo hi none n).2.2=1:=by
 refine⟨?_,?_,rfl⟩
 ·cases lo with
  |none=>simp[sliceBounds,HT.sIx]
  |some i=>
   simp only[sliceBounds,HT.sIx,Option.getD_none,show(1:Int)>0 by decide,if_true]
   by_cases h:i<0
   ·simp only[h,if_true]<;>omega
   ·simp only[h,if_false]<;>omega
 ·cases hi with
  |none=>simp[sliceBounds,HT.sIx]
  |some i=>
   simp only[sliceBounds,HT.sIx,Option.getD_none,show(1:Int)>0 by decide,if_true]
   by_cases h:i<0
   ·simp only[h,if_true]<;>omega
   ·simp only[h,if_false]<;>omega
theorem pI(its:JX)(lo hi:Option Int):slicePick its.toArray lo hi none=((its.drop (HT.sIx its.length 0 lo)).take (HT.sIx its.length its.length hi-HT.sIx its.length 0 lo)).toArray:=by
 obtain⟨h1,h2,h3⟩:=r8 lo hi its.toArray.size;unfold slicePick;rw[h1,h2,h3];simp only[sliceRange_one,pick_run,IZ]<;>rfl
noncomputable def FC(K:JT):V->Option Int->Option Int->Hp->VK->Prop:=λx lo hi H Q=>∃a xs,x=.ref a/\aW K H a xs/\∀p,H p=none->Q (.ref p) (aC H p (.lst (dE xs lo hi)))
theorem E2:ES X (FC X.K):=by
 intro pins s σ H x v vl vu lo hi sl Q I rx hs pl pu h;obtain⟨a,xs,rfl,hx,q⟩:=h;cases rx;obtain⟨its,r,ht,hz⟩:=I.list hx;have hlen:=r.length;refine⟨"list",_,slot_list_getitem.lookup,ht.isList.typeIs,?_⟩;refine wpAny_getItem_list_slice ht.isList hs pl pu .none (by simp) ?_ (by rw[IZ]<;>omega);rw[pI,<- hlen];refine⟨.ref s.heap.objs.size,_,I.laid (t':=s.toks) (o:=.lst (dE xs lo hi)) (λb ob q=>IS _ q) (Jo _) ?_,rfl,q _ (I.hok.fresh (Jo _))⟩;exact⟨Jw (iC xs lo hi) hz,_,0,(r.drop (HT.sIx xs.length 0 lo)).take (HT.sIx xs.length xs.length hi-HT.sIx xs.length 0 lo),IY _ rfl⟩
noncomputable def qt:V->Bool
 | .non=>true
 | .bl _=>true
 | .int _=>true
 | .str _=>true
 |_=>false
noncomputable def uV:V->V->Bool
 | .non,.non=>true
 | .bl a,.bl b=>a==b
 | .bl a,.int b=>(if a then 1 else 0)==b
 | .int a,.bl b=>a==(if b then 1 else 0)
 | .int a,.int b=>a==b
 | .str a,.str b=>a==b
 |_,_=>false
theorem gm{A:J8}{s:JW}{y x:V}{u v:Value}(ry:bq y u)(rx:bq x v)(fy:qt y=true)(fx:qt x=true):SeqAt.EqAt A s u v (uV y x):=by
 cases y with
 |non=>
  cases ry;cases x with
  |non=>cases rx;exact SeqAt.EqAt.same _
  |bl b=>cases rx;exact SeqAt.EqAt.none_bool b
  |int b=>obtain⟨t,rfl⟩:=rx;exact SeqAt.EqAt.none_int b t
  |str b=>obtain⟨t,rfl⟩:=rx;exact SeqAt.EqAt.none_str b t
  |_=>exact absurd (show false=true from fx) Jq
 |bl a=>
  cases ry;cases x with
  |non=>cases rx;exact SeqAt.EqAt.bool_none a
  |bl b=>cases rx;exact SeqAt.EqAt.bool_bool a b
  |int b=>obtain⟨t,rfl⟩:=rx;exact SeqAt.EqAt.bool_int a b t
  |str b=>obtain⟨t,rfl⟩:=rx;exact SeqAt.EqAt.bool_str a b t
  |_=>exact absurd (show false=true from fx) Jq
 |int a=>
  obtain⟨t',rfl⟩:=ry;cases x with
  |non=>cases rx;exact SeqAt.EqAt.int_none a t'
  |bl b=>cases rx;exact SeqAt.EqAt.int_bool a t' b
  |int b=>obtain⟨t,rfl⟩:=rx;exact SeqAt.EqAt.int_int a t' b t
  |str b=>obtain⟨t,rfl⟩:=rx;exact SeqAt.EqAt.int_str a t' b t
  |_=>exact absurd (show false=true from fx) Jq
 |str a=>
  obtain⟨t',rfl⟩:=ry;cases x with
  |non=>cases rx;exact SeqAt.EqAt.str_none a t'
  |bl b=>cases rx;exact SeqAt.EqAt.str_bool a t' b
  |int b=>obtain⟨t,rfl⟩:=rx;exact SeqAt.EqAt.str_int a t' b t
  |str b=>obtain⟨t,rfl⟩:=rx;exact SeqAt.EqAt.str_str a t' b t
  |_=>exact absurd (show false=true from fx) Jq
 |_=>exact absurd (show false=true from fy) Jq
theorem jY:fb X (.builtin "len") (λxs H Q=>∃p ys,xs=[.ref p]/\(aW X.K H p ys\/bc X.K H p ys)/\Q (.int ys.length) H):=by
 intro pins s σ H xs us Q I r h;obtain⟨p,ys,rfl,hq,q⟩:=h;obtain⟨u,rfl,rx⟩:=tI r;cases rx;have hn:=lj;rcases hq with hq | hq
 ·obtain⟨its,r',pl,hz⟩:=I.list hq
  have hlen:=r'.length;exact Calls.call_len_list pl.isList (by simp only[IZ]<;>omega) ⟨.int ys.length,H,I.tok _,⟨s.toks+1,by rw[IZ,hlen]⟩,q⟩
 ·obtain⟨its,r',pl,hz⟩:=I.tuple hq
  have hlen:=r'.length;exact len_tuple pl (by simp only[IZ]<;>omega) ⟨.int ys.length,H,I.tok _,⟨s.toks+1,by rw[IZ,hlen]⟩,q⟩
theorem bf:fb X (.builtin "len") (λxs H Q=>∃z,xs=[.str z]/\z.length<=sizeLine/\Q (.int z.length) H):=by
 intro pins s σ H xs us Q I r h;obtain⟨z,rfl,hz,q⟩:=h;obtain⟨u,rfl,t,rfl⟩:=tI r;have hn:=lj;exact len_str ⋯ ⟨.int z.length,H,I.tok _,⟨_,rfl⟩,q⟩
theorem gw:fb X (.type "list") (λxs H Q=>∃p ys,xs=[.ref p]/\(aW X.K H p ys\/bc X.K H p ys)/\∀l,H l=none->Q (.ref l) (aC H l (.lst ys))):=by
 intro pins s σ H xs us Q I r h;obtain⟨p,ys,rfl,hq,q⟩:=h;obtain⟨u,rfl,rx⟩:=tI r;cases rx;have fin:∀(its:JX),aY ys its->ys.length<=sizeLine->∀(h':Heap) (c':Nat),(∀b o',s.heap.get? b=some o'->h'.get? b=some o') ->
   h'.get? s.heap.objs.size=some {cls:=.type "list",dict:=none,data:=.seq its.toArray c',slots:=#[]}->EP X pins σ Q (.ref s.heap.objs.size) {s with heap:=h' }:=λits r' hz h' c' kp e=>
  ⟨.ref s.heap.objs.size,_,I.laid (t':=s.toks) kp (Jo _) (show bt X.prog X.w _ h' _ (.lst ys) from⟨hz,its,c',r',e⟩),rfl,q _ (I.hok.fresh (Jo _))⟩
 rcases hq with hq | hq
 ·obtain⟨its,r',pl,hz⟩:=I.list hq
  have hlen:=r'.length;obtain⟨o,ho,hc,n,hd⟩:=pl.isList;exact call_list_seq p (.inl rfl) ho hc hd (λh' c' kp e=>fin its r' hz h' c' kp e) (by simp only[IZ]<;>omega)
 ·obtain⟨its,r',pl,hz⟩:=I.tuple hq
  have hlen:=r'.length;obtain⟨o,ho,hc,n,hd⟩:=pl;exact call_list_seq p (.inr rfl) ho hc hd (λh' c' kp e=>fin its r' hz h' c' kp e) (by simp only[IZ]<;>omega)
theorem ji:fb X (.type "tuple") (λxs H Q=>∃p ys,xs=[.ref p]/\((aW X.K H p ys/\∀l,H l=none->Q (.ref l) (aC H l (.tup ys)))\/(bc X.K H p ys/\Q (.ref p) H))):=by
 intro pins s σ H xs us Q I r h;obtain⟨p,ys,rfl,h⟩:=h;obtain⟨u,rfl,rx⟩:=tI r;cases rx;rcases h with⟨hq,q⟩ | ⟨hq,q⟩
 ·obtain⟨its,r',pl,hz⟩:=I.list hq
  have hlen:=r'.length;refine call_tuple_list pl.isList (λh' kp=>?_) (by simp only[IZ]<;>omega);have I1:Inv X pins σ H {s with heap:=h' }:=I.kept (t':=s.toks) kp;have I2:Inv X pins σ (aC H h'.objs.size (.tup ys)) {s with heap:=h'.push {cls:=.type "tuple",data:=.seq its.toArray} }:=
   I1.laid (t':=s.toks) (λb o e=>IS _ e) (Jo _) (show bt X.prog X.w _ _ _ (.tup ys) from⟨hz,its,r',IsTup.new _ _⟩)
  exact⟨.ref h'.objs.size,_,I2,rfl,q _ (I1.hok.fresh (Jo _))⟩
 ·obtain⟨its,r',pl,hz⟩:=I.tuple hq
  exact call_tuple_same pl ⟨.ref p,H,I,rfl,q⟩
def Fd(K:JT)(T:String)(x:V)(H:Hp):Prop:=match x with
 | .str _=>T="str"
 | .int _=>T="int"
 | .ref p=>(T="list"/\∃xs,aW K H p xs)\/(T="tuple"/\∃o,K.lookup p=some o/\o.cls=.type "tuple"/\o.dict=none) \/
   (T="dict"/\((∃kvs,H p=some (.dK kvs))\/∃kvs,H p=some (.dT kvs)))\/(T="set"/\∃S n,H p=some (.set S n))
 |_=>False
theorem BA{pins:JU}{σ:St}{H:Hp}{s:JW}{T:String}{x:V}{v:Value}(I:Inv X pins σ H s)(r:bq x v)(ty:Fd X.K T x H) :
  s.TypeIs v T/\∀a,v=.ref a->∃ob,s.heap.get? a=some ob/\ob.dict=none:=by
 cases x with
 |str z=>
  obtain⟨t,rfl⟩:=r;cases(show T="str" from ty);exact⟨typeIs_str s z t,λ_ e=>nomatch e⟩
 |int i=>
  obtain⟨t,rfl⟩:=r;cases(show T="int" from ty);exact⟨typeIs_int s i t,λ_ e=>nomatch e⟩
 |ref p=>
  cases r;rcases ty with⟨rfl,xs,hq⟩ | ⟨rfl,o,hk,hc,hd⟩ | ⟨rfl,hk⟩ | ⟨rfl,S,n,hk⟩
  ·obtain⟨its,_,pl,_⟩:=I.list hq
   refine⟨pl.isList.typeIs,λa e=>?_⟩;cases e;obtain⟨o,n,e,c,hd,_⟩:=pl;exact⟨o,e,hd⟩
  ·refine⟨⟨o,I.kIn p o hk,hc⟩,λa e=>?_⟩
   cases e;exact⟨o,I.kIn _ o hk,hd⟩
  ·have z:∃o,s.heap.get? p=some o/\o.ExactDict:=by
    rcases hk with⟨kvs,hk⟩ | ⟨kvs,hk⟩
    ·obtain⟨_,_,_,_,o,_,_,e,ex,_⟩:=I.hok p _ hk
     exact⟨o,e,ex⟩
    ·obtain⟨_,_,_,_,o,_,_,e,ex,_⟩:=I.hok p _ hk
     exact⟨o,e,ex⟩
   obtain⟨o,e,ex⟩:=z;refine⟨⟨o,e,ex.1⟩,λa e2=>?_⟩;cases e2;exact⟨o,e,ex.2.1⟩
  ·obtain⟨o,_,_,_,e,ex,_⟩:=I.hok p _ hk
   refine⟨⟨o,e,ex.1⟩,λa e2=>?_⟩;cases e2;exact⟨o,e,ex.2.1⟩
 |_=>exact False.elim ty
noncomputable def D6(K:JT)(T:String)(r:V->List V->Hp->VK->Prop)(to:TE):TE:=λσ H Q=>to σ H λx H1=>Fd K T x H1/\r x [] H1 Q
noncomputable def EY(K:JT)(T:String)(r:V->List V->Hp->VK->Prop)(to:TE)(t:TA):TE:=λσ H Q=>to σ H λx H1=>Fd K T x H1/\t σ H1 λxs H2=>r x xs H2 Q
variable {o e:Expr}{es:Kb}{to:TE}{t:TA}{name:Str}{apos cpos:Pos}{T id:String}{r:V->List V->Hp->VK->Prop}
theorem By(pa:PlainAttrs T)(slot:Slot T name id)(hty:typeOf (.builtin id)=pure (.type "method_descriptor"))(hm:Eo X id r)(ho:PE X o to)
  (hbase:autoParam (attributeBase o name X.env (eval o X.env)=eval o X.env) zz0._auto_1) (hline:autoParam ((apos.endLine==cpos.line)=true) zz0._auto_1):PE X (.Call (.Attribute o name apos) [] [] cpos) (D6 X.K T r to):=by
 intro pins s σ H Q I h;refine wpAny_Call_method0_late hbase hline (bM (ho pins s σ H _ I h) λv s1 ⟨x,H1,I1,r1,ty,q1⟩=>?_);obtain⟨h1,h2⟩:=BA I1 r1 ty;exact⟨T,id,pa,slot,hty,h1,h2,Calls.callWith_builtin rfl (PySem.evalArgs_none (hm pins s1 σ H1 x [] v [] Q I1 r1 .nil q1))⟩
theorem eO(pa:PlainAttrs T)(slot:Slot T name id)(hty:typeOf (.builtin id)=pure (.type "method_descriptor"))(hm:Eo X id r)(ho:PE X o to)(ha:PA X (e::es) t)
  (hbase:autoParam (attributeBase o name X.env (eval o X.env)=eval o X.env) zz0._auto_1)
  (hfew:autoParam (((backTo cpos (starEach (e::es) X.env)).all (λx=>!x.1)&&(backToKw cpos (keywordEach [] X.env)).all (λx=>x.1.isSome)
   && decide ((e::es).length+([]:List Keyword).length+(if([]:List Keyword).isEmpty then 0 else 1)<30))=true) zz0._auto_1)
  (hline:autoParam ((apos.endLine==cpos.line)=true) zz0._auto_1) (hs:autoParam (starEach (e::es) X.env=(false,eval e X.env)::starEach es X.env) zz0._auto_1) (hplain:autoParam ((backTo cpos (starEach es X.env)).any (·.1)=false) zz0._auto_1) :
  PE X (.Call (.Attribute o name apos) (e::es) [] cpos) (EY X.K T r to t):=by
 intro pins s σ H Q I h;refine wpAny_Call_method_late hbase hfew hline rfl (bM (ho pins s σ H _ I h) λv s1 ⟨x,H1,I1,r1,ty,q1⟩=>?_);obtain⟨h1,h2⟩:=BA I1 r1 ty;refine⟨T,id,pa,slot,hty,h1,h2,?_⟩;have hA:=ha cpos pins s1 σ H1 _ I1 q1;rw[hs]at hA ⊢;refine Calls.callWith_builtin (by show(false||(backTo cpos (starEach es X.env)).any (·.1))=false;rw[hplain]<;>rfl) (Calls.evalArgs_plain ?_);exact bM hA λus s2 ⟨vs,H2,I2,r2,q2⟩=>hm pins s2 σ H2 x vs v us Q I2 r1 r2 q2
end
def Fj(X:Cx)(id:String)(r:V->List V->Hp->VK->Prop):Prop:=
 ∀(pins:JU) (s:JW) (σ:St) (H:Hp) (x:V) (xs:List V) (v:Value) (us:JX) (Q:VK),Inv X pins σ H s->bq x v->aY xs us->r x xs H Q ->
  wpAny (model X.prog X.w) X.A (call (.builtin id) (v::us)) (EP X pins σ Q) X.xe s
theorem aY.one:∀{x:V} {us:JX},aY [x] us->∃u,us=[u]/\bq x u
 |_,_,.cons r .nil=>⟨_,rfl,r⟩
theorem aY.two:∀{x y:V} {us:JX},aY [x,y] us->∃u v,us=[u,v]/\bq x u/\bq y v
 |_,_,_,.cons r (.cons q .nil)=>⟨_,_,rfl,r,q⟩
theorem aY.zero:∀{us:JX},aY [] us->us=[]
 |_,.nil=>rfl
theorem aY.dropLast{xs:List V}{us:JX}(h:aY xs us):aY xs.dropLast us.dropLast:=by
 induction h with
 |nil=>exact .nil
 |cons r t ih=>
  cases t with
  |nil=>exact .nil
  |cons q t'=>exact .cons r ih
theorem aY.reverse{xs:List V}{us:JX}(h:aY xs us):aY xs.reverse us.reverse:=by
 induction h with
 |nil=>exact .nil
 |cons r t ih=>rw[Jv,Jv];exact aY.append ih (.cons r .nil)
theorem vY{α:Type}(l:List α):l.eraseIdx (l.length-1)=l.dropLast:=by
 induction l with
 |nil=>rfl
 |cons a r ih=>
  cases r with
  |nil=>rfl
  |cons b r=>
   have e:(a::b::r).length-1=((b::r).length-1)+1:=by
    have h1:(a::b::r).length=r.length+2:=rfl;have h2:(b::r).length=r.length+1:=rfl;omega
   rw[e,List.eraseIdx_cons_succ,ih]
   all_goals rfl
section
variable {X:Cx}{pins:JU}{σ:St}{H:Hp}{s:JW}{l b:Addr}{xs ys zs:List V}
theorem Inv.lset{its its':JX}{n:Nat}{f:Array Value->Array Value}{t':Nat}(I:Inv X pins σ H s)(hH:H l=some (.lst xs))
  (e:s.heap.get? l=some {cls:=.type "list",data:=.seq its.toArray n}) (hf:f its.toArray=its'.toArray) (hv:aY ys its') (hz:ys.length<=sizeLine) :
  Inv X pins σ (aC H l (.lst ys)) {s with heap:=s.heap.update l (Obj.mapSeq f),toks:=t' }:=by
 have q:=PySem.IsL.update e f;rw[hf]at q;refine I.write (x:=l) (e:=l) (by rw[hH];exact trivial) (.inl rfl) (λb' u hb hu=>(IX s.heap (Obj.mapSeq f) (Ne.symm hb)).trans hu) ⟨_,q⟩ ?_;exact⟨hz,its',_,hv,q⟩
theorem Inv.lnew{its:JX}{t':Nat}(I:Inv X pins σ H s)(hv:aY ys its)(hz:ys.length<=sizeLine) :
  Inv X pins σ (aC H s.heap.objs.size (.lst ys)) {s with heap:=s.heap.push {cls:=.type "list",data:=.seq its.toArray},toks:=t' }:=
 I.laid (λ_ _ q=>IS _ q) (Jo _) ⟨hz,its,0,hv,IY _ rfl⟩
theorem Inv.fresh(I:Inv X pins σ H s):H s.heap.objs.size=none:=I.hok.fresh (Jo _)
theorem Inv.lstM(I:Inv X pins σ H s)(hH:H l=some (.lst xs)):xs.length<=sizeLine/\∃(its:JX) (n:Nat),aY xs its/\xs.length=its.length/\s.heap.get? l=some {cls:=.type "list",data:=.seq its.toArray n}:=by
 obtain⟨z,its,n,r,e⟩:=I.hok l _ hH;exact⟨z,its,n,r,r.length,e⟩
theorem tK{n:Nat}(h:n<=sizeLine):Builtin.List.listTooLong n=false:=by
 unfold Builtin.List.listTooLong;exact decide_eq_false ⋯
end
section
variable {X:Cx}
noncomputable def rR:V->List V->Hp->VK->Prop:=λx vs H Q=>∃l xs y,x=.ref l/\vs=[y]/\H l=some (.lst xs)/\xs.length<sizeLine/\Q .non (aC H l (.lst (xs++[y])))
theorem cg:Fj X "list.append" rR:=by
 intro pins s σ H x vs v us Q I rx rv h;obtain⟨l,xs,y,rfl,rfl,hH,hz,q⟩:=h;cases rx;obtain⟨u,rfl,ru⟩:=rv.one;obtain⟨z,its,n,r,hl,e⟩:=I.lstM hH;refine call_meets F.slot_list_append ⟨_,e,rfl⟩ F.entry_list_append (F.args_list_append_2 _ _) (PySem.list_append l its.toArray n u (by rw[IZ];omega)) ⟨e,?_⟩;refine⟨.non,_,I.lset (its':=its++[u]) hH e (by simp) (r.append (.cons ru .nil)) ?_,rfl,q⟩;rw[Jn,List.length_singleton];omega
noncomputable def su:V->List V->Hp->VK->Prop:=λx vs H Q=>∃l b xs zs,x=.ref l/\vs=[.ref b]/\H l=some (.lst xs)/\H b=some (.lst zs)/\xs.length+zs.length<=sizeLine/\Q .non (aC H l (.lst (xs++zs)))
theorem x8:Fj X "list.extend" su:=by
 intro pins s σ H x vs v us Q I rx rv h;obtain⟨l,b,xs,zs,rfl,rfl,hH,hB,hz,q⟩:=h;cases rx;obtain⟨u,rfl,ru⟩:=rv.one;cases ru;obtain⟨z,its,n,r,hl,e⟩:=I.lstM hH;obtain⟨z2,its2,n2,r2,hl2,e2⟩:=I.lstM hB;have hsz:its.toArray.size+its2.toArray.size<=sizeLine:=by rw[IZ,IZ];omega
 have hlong:¬ (!its.toArray.isEmpty&&Builtin.List.listTooLong (its.toArray.size+its2.toArray.size))=true:=by
  rw[tK hsz,Bool.and_false];exact Jq
 refine call_meets F.slot_list_extend ⟨_,e,rfl⟩ F.entry_list_extend (F.args_list_extend_2 _ _)
  (AutoSeq1.list_extend_list_list_0 l its.toArray n b its2.toArray n2 hlong (by rw[IZ];omega) ⋯) ⟨e,e2,?_⟩
 refine⟨.non,_,I.lset (its':=its++its2) hH e (by simp) (r.append r2) ?_,rfl,q⟩;rw[Jn];omega
noncomputable def Dv:V->List V->Hp->VK->Prop:=λx vs H Q=>∃l xs y,x=.ref l/\vs=[]/\H l=some (.lst xs)/\xs[xs.length-1]?=some y/\Q y (aC H l (.lst xs.dropLast))
theorem BC:Fj X "list.pop" Dv:=by
 intro pins s σ H x vs v us Q I rx rv h;obtain⟨l,xs,y,rfl,rfl,hH,hy,q⟩:=h;cases rx;have hus:=rv.zero;subst hus;obtain⟨z,its,n,r,hl,e⟩:=I.lstM hH;obtain⟨u,hu,ru⟩:=r.get hy;have hy':its.toArray[its.toArray.size-1]?=some u:=by
  show its.toArray[its.length-1]?=some u;rw[<- Array.getElem?_toList,<- hl];exact hu
 refine call_meets F.slot_list_pop ⟨_,e,rfl⟩ F.entry_list_pop (F.args_list_pop_1 _) (MeetsSeq.list_pop_last l its.toArray n u hy' (by rw[IZ];omega)) ⟨e,?_⟩;refine⟨y,_,I.lset (its':=its.dropLast) hH e ?_ r.dropLast ?_,ru,q⟩
 ·show its.toArray.eraseIdxIfInBounds (its.toArray.size-1)=its.dropLast.toArray
  rw[IZ,List.eraseIdxIfInBounds_toArray,vY]
 ·rw[List.length_dropLast]
  omega
noncomputable def DW:R2:=λx y H Q=>∃l b xs zs,x=.ref l/\y=.ref b/\H l=some (.lst xs)/\H b=some (.lst zs)/\xs.length+zs.length<=sizeLine/\∀p,H p=none->Q (.ref p) (aC H p (.lst (xs++zs)))
theorem rO:aZ X (binaryOp .Add) DW:=by
 intro pins s σ H x y v u Q I rx ry h;obtain⟨l,b,xs,zs,rfl,rfl,hH,hB,hz,q⟩:=h;cases rx;cases ry;obtain⟨z,its,n,r,hl,e⟩:=I.lstM hH;obtain⟨z2,its2,n2,r2,hl2,e2⟩:=I.lstM hB;refine PySem.P.add_list e e2 ?_ (by rw[IZ,IZ];omega);have ea:its.toArray++its2.toArray=(its++its2).toArray:=by simp
 rw[ea];exact⟨.ref _,_,I.lnew (t':=s.toks) (r.append r2) (by rw[Jn];omega),rfl,q _ I.fresh⟩
end
section
variable {prog:J3}{w:J9}{A:J8}{E:JS}{s:JW}
end
section
variable {X:Cx}
end
section
variable {κ:Type}[DecidableEq κ]
noncomputable def fm(kvs:List (κ×V))(k:κ):Option V:=(kvs.find? λkv=>decide (kv.1=k)).map (·.2)
noncomputable def jz(kvs:List (κ×V))(k:κ)(v:V):List (κ×V):=
 if(kvs.any λkv=>decide (kv.1=k))=true then kvs.map (λkv=>if kv.1=k then(kv.1,v) else kv) else kvs++[(k,v)]
theorem oU{p:κ×V}{r:List (κ×V)}{k:κ}(e:p.1=k):fm (p::r) k=some p.2:=by simp[fm,List.find?_cons,e]
theorem nS{p:κ×V}{r:List (κ×V)}{k:κ}(e:¬ p.1=k):fm (p::r) k=fm r k:=by simp[fm,List.find?_cons,e]
theorem nF(k:κ):∀kvs:List (κ×V),(kvs.any λkv=>decide (kv.1=k))=(fm kvs k).isSome
 | []=>rfl
 |p::r=>by
  rw[List.any_cons]
  by_cases e:p.1=k
  ·simp only[oU e,decide_eq_true e,Bool.true_or,Option.isSome_some]
  ·rw[nS e,decide_eq_false e,Bool.false_or];exact nF k r
theorem me(kvs:List (κ×V))(k:κ)(v:V):(jz kvs k v).length<=kvs.length+1:=by
 unfold jz
 split
 ·rw[IT];omega
 ·rw[Jn,Jc,List.length_nil];omega
theorem zw{kvs:List (κ×V)}{k:κ}(v:V)(h:fm kvs k=none):jz kvs k v=kvs++[(k,v)]:=by
 unfold jz;rw[nF,h];exact if_neg nofun
theorem KV.val{kvs:List (κ×V)}{vs:List (κ×Value)}(r:KV kvs vs)(k:κ):k9 (fm kvs k) (valueAt vs k):=by
 unfold KV at r
 induction r with
 |nil=>exact True.intro
 | @cons p q ps qs h t ih=>
  obtain⟨h1,h2⟩:=h
  by_cases e:p.1=k
  ·have e':q.1=k:=h1.symm.trans e
   have b:valueAt (q::qs) k=some q.2:=by simp[valueAt,List.find?_cons,e']
   rw[oU e,b];exact h2
  ·have e':¬ q.1=k:=λz=>e (h1.trans z)
   have b:valueAt (q::qs) k=valueAt qs k:=by simp[valueAt,List.find?_cons,e']
   rw[nS e,b];exact ih
theorem KV.any{kvs:List (κ×V)}{vs:List (κ×Value)}(r:KV kvs vs)(k:κ):(kvs.any λkv=>decide (kv.1=k))=vs.any λkv=>decide (kv.1=k):=by
 unfold KV at r
 induction r with
 |nil=>rfl
 |cons h t ih=>rw[List.any_cons,List.any_cons,ih,h.1]
theorem KV.repl{kvs:List (κ×V)}{vs:List (κ×Value)}(r:KV kvs vs)(k:κ){y:V}{u:Value}(ry:bq y u) :
  KV (kvs.map λkv=>if kv.1=k then(kv.1,y) else kv) (vs.map λkv=>if kv.1=k then(kv.1,u) else kv):=by
 unfold KV at r ⊢
 induction r with
 |nil=>exact .nil
 | @cons p q ps qs h t ih=>
  rw[Ju,Ju];refine .cons ?_ ih;obtain⟨h1,h2⟩:=h
  by_cases e:p.1=k
  ·rw[if_pos e,if_pos (h1.symm.trans e)];exact⟨h1,ry⟩
  ·rw[if_neg e,if_neg (λz=>e (h1.trans z))];exact⟨h1,h2⟩
theorem KV.put{kvs:List (κ×V)}{vs:List (κ×Value)}(r:KV kvs vs)(k:κ){y:V}{u:Value}(ry:bq y u):KV (jz kvs k y) (stored vs k u):=by
 unfold jz stored;rw[r.any k]
 by_cases e:(vs.any λkv=>decide (kv.1=k))=true
 ·rw[if_pos e,if_pos e];exact r.repl k ry
 ·rw[if_neg e,if_neg e];exact Paired.snoc r ⟨rfl,ry⟩
theorem KV.length{kvs:List (κ×V)}{vs:List (κ×Value)}(r:KV kvs vs):kvs.length=vs.length:=Paired.length r
end
theorem BF{P:J3}{w:J9}{k:fk}{u:Value}(r:bq (kV k) u):(b7 P w).is k u=true:=by
 cases k with
 |inl i=>obtain⟨t,e⟩:=(show ∃t,u=Value.int i t from r);subst e;exact uD P w i t
 |inr x=>obtain⟨t,e⟩:=(show ∃t,u=Value.str x t from r);subst e;exact uE P w x t
theorem qy{P:J3}{w:J9}:∀{ks:List fk} {us:JX},aY (ks.map kV) us->ItemsAre (b7 P w) ks us
 | [],_,r=>by rw[List.map_nil]at r;cases r;exact .nil
 |k::ks,_,r=>by
  rw[Ju]at r;cases r with
  |cons h t=>exact .cons (BF h) (qy t)
noncomputable abbrev KT(H:Hp):List (List fk×V)->List (List fk×Addr×Value)->Prop:=Paired λp q=>p.1=q.1/\H q.2.1=some (.tup (p.1.map kV))/\bq p.2 q.2.2
section
variable {P:J3}{w:J9}{H:Hp}{h:Heap}{a:Addr}
theorem CS{u:HO}(ok:jk P w H h)(e:Rd H a u):bt P w H h a u:=e.ok ok
theorem A6{kvs:List (fk×V)}(ok:jk P w H h)(e:Rd H a (.dK kvs)):kvs.length<=sizeLine/\(a==sysModules)=false/\∃vs,KV kvs vs/\h.DictOf (b7 P w) a vs:=
 show bt P w H h a (.dK kvs) from CS ok e
theorem C7{kvs:List (fk×V)}(ok:jk P w H h)(e:H a=some (.dK kvs)):kvs.length<=sizeLine/\(a==sysModules)=false/\∃vs,KV kvs vs/\h.DictOf (b7 P w) a vs:=A6 ok (.inl e)
theorem DU{ks:List fk}(ok:jk P w H h)(e:H a=some (.tup (ks.map kV))):(tupleKind (b7 P w)).is h ks a:=by
 obtain⟨_,its,r,o,h1,h2,n,h3⟩:=(show bt P w H h a (.tup (ks.map kV)) from ok a _ e);exact⟨o,its.toArray,n,h1,h2,h3,by simpa using qy r⟩
theorem Et{kvs:List (List fk×V)}(ok:jk P w H h)(e:Rd H a (.dT kvs)):kvs.length<=sizeLine/\(a==sysModules)=false /\
  ∃xs,KT H kvs xs/\h.DictOfH (tupleKind (b7 P w)) a xs:=by
 obtain⟨z,y,xs,r,o,es,ep,h1,h2,h3,h4,h5⟩:=(show bt P w H h a (.dT kvs) from CS ok e);refine⟨z,y,xs,r,o,es,ep,h1,h2,h3,h4,λx hx=>?_,h5⟩;have all:∀{l:List (List fk×V)} {m:List (List fk×Addr×Value)},KT H l m->∀x∈m,(tupleKind (b7 P w)).is h x.1 x.2.1:=by
  intro l m q
  induction q with
  |nil=>intro x hx;exact nomatch hx
  | @cons p q ps qs hq t ih=>
   intro x hx;rcases Jg.mp hx with e | hx
   ·subst e
    exact DU ok (by rw[<- hq.1];exact hq.2.1)
   ·exact ih x hx
 exact all r x hx
end
section
variable {X:Cx}{pins:JU}{σ:St}{H:Hp}{s:JW}{a:Addr}{y v:V}{u r:Value}{o:Option V}{A:J8}{E:JS}
theorem Inv.big(I:Inv X pins σ H s):sysModules<s.heap.objs.size:=by
 have h:mainGlobals<s.heap.objs.size:=(I.mod.glob.keeps I.bk).lt;exact Nat.lt_trans nofun h
theorem wL{h':Heap}{t':Nat}{ob:HO}(I:Inv X pins σ H s)(mu:Ev (H a))(hs:Heap.SameBut a s.heap h')(he:∃q,h'.get? a=some q)(new:bt X.prog X.w (aC H a ob) h' a ob) :
  Inv X pins σ (aC H a ob) {s with heap:=h',toks:=t' }:=
 I.write (x:=a) (e:=a) mu (.inl rfl) (λb q hb z=>(hs.2 b hb).trans z) he new
theorem zE{P:J3}{w:J9}{H':Hp}{h':Heap}{kvs:List (fk×V)}{vs:List (fk×Value)}(z:kvs.length<=sizeLine)(hd:(a==sysModules)=false)(rel:KV kvs vs)(dd:h'.DictOf (b7 P w) a vs) :
  bt P w H' h' a (.dK kvs):=⟨z,hd,vs,rel,dd⟩
end
section
variable {X:Cx}{pins:JU}{σ:St}{H:Hp}{s:JW}{a:Addr}{kvs:List (fk×V)}{k:fk}{u:Value}{A:J8}{E:JS}
theorem Es{Q:JS}(I:Inv X pins σ H s)(e:Rd H a (.dK kvs))(h:∀t s',Inv X pins σ H s'->Q (.int kvs.length t) s'):wpAny (model X.prog X.w) A (call (.builtin "len") [.ref a]) Q E s:=by
 obtain⟨z,hd,vs,rel,dd⟩:=A6 I.hok e;refine call_len_dict hd dd (by rw[<- rel.length];rw[sizeLine_eq]at z;omega) ?_;rw[<- rel.length];exact h _ _ (I.tok _)
end
section
variable {X:Cx}{o i e value:Expr}{pos pos' tpos:Pos}{td ty tv:TE}
end
theorem Bw{P:J3}{w:J9}{H:Hp}(h:Heap)(hb:sysModules<h.objs.size):bt P w H (h.push {cls:=.type "dict",data:=.dict #[]}) h.objs.size (.dK []):=
 ⟨Jp _,beq_eq_false_iff_ne.mpr (Ne.symm (Jk hb)),[],.nil,Heap.DictOf.new h⟩
section
variable {X:Cx}{pos:Pos}
end
noncomputable def nP:List (TE×TE)->St->Hp->(List (V×V)->Hp->Prop)->Prop
 | [],_,H,Q=>Q [] H
 | (tk,tv)::r,σ,H,Q=>tk σ H λx H1=>tv σ H1 λy H2=>nP r σ H2 λps H3=>Q ((x,y)::ps) H3
noncomputable abbrev VV:List (V×V)->List (Value×Value)->Prop:=Paired λp q=>bq p.1 q.1/\bq p.2 q.2
def E5(X:Cx)(pos:Pos)(keys:List (Option Expr))(values:Kb)(trs:List (TE×TE)):Prop:=
 ∀(pins:JU) (s:JW) (σ:St) (H:Hp) (Q:List (V×V)->Hp->Prop),Inv X pins σ H s->nP trs σ H Q ->
  wpAny (model X.prog X.w) X.A (evalPairs (pairTrees keys values X.env pos)) (λvs s'=>∃ps H',Inv X pins σ H' s'/\VV ps vs/\Q ps H') X.xe s
theorem B3{X:Cx}{pos:Pos}:E5 X pos [] [] []:=λpins s σ H Q I h=>pairTrees_nil_walk ⟨[],H,I,.nil,h⟩
theorem zg{X:Cx}{pos:Pos}{k v:Expr}{ks:List (Option Expr)}{vs:Kb}{tk tv:TE}{trs:List (TE×TE)}(hk:PE X k tk)(hv:PE X v tv)(hr:E5 X pos ks vs trs) :
  E5 X pos (some k::ks) (v::vs) ((tk,tv)::trs):=λpins s σ H Q I h=>
 pairTrees_cons_walk (bM (hk pins s σ H _ I h) λu s1 ⟨x,H1,I1,rx,q1⟩=>bM (hv pins s1 σ H1 _ I1 q1) λw2 s2 ⟨y,H2,I2,ry,q2⟩=>
  bM (hr pins s2 σ H2 _ I2 q2) λws s3 ⟨ps,H3,I3,rel,q3⟩=>⟨(x,y)::ps,H3,I3,.cons ⟨rx,ry⟩ rel,q3⟩)
noncomputable def om(kvs more:List (fk×V)):List (fk×V):=more.foldl (λacc kv=>jz acc kv.1 kv.2) kvs
theorem KV.merge:∀{more:List (fk×V)} {rs:List (fk×Value)} {kvs:List (fk×V)} {vs:List (fk×Value)},KV more rs->KV kvs vs->KV (om kvs more) (merged vs rs):=by
 intro more rs kvs vs r;unfold KV at r
 induction r generalizing kvs vs with
 |nil=>intro q;exact q
 | @cons p q ps qs h t ih=>
  intro r0;have e:KV (jz kvs p.1 p.2) (stored vs q.1 q.2):=by
   have:=r0.put p.1 h.2;rw[<- h.1];exact this
  exact ih e
theorem jf:∀(more kvs:List (fk×V)),(om kvs more).length<=kvs.length+more.length
 | [],kvs=>by show kvs.length<=kvs.length+0;omega
 |p::r,kvs=>by
  have h1:=jf r (jz kvs p.1 p.2);have h2:=me kvs p.1 p.2;show(om (jz kvs p.1 p.2) r).length<=_;rw[Jc];omega
theorem oR{P:J3}{w:J9}:∀{kvs:List (fk×V)} {ws:List (Value×Value)},VV (kvs.map λkv=>(kV kv.1,kv.2)) ws->∃rs,Carries (b7 P w) ws rs/\KV kvs rs
 | [],_,r=>by rw[List.map_nil]at r;cases r;exact⟨[],True.intro,.nil⟩
 |p::kvs,_,r=>by
  rw[Ju]at r;cases r with
  | @cons a b as bs h t=>
   obtain⟨rs,c,q⟩:=oR (P:=P) (w:=w) t;obtain⟨b1,b2⟩:=b;exact⟨(p.1,b2)::rs,⟨BF h.1,rfl,c⟩,.cons ⟨rfl,h.2⟩ q⟩
noncomputable def zh(trs:List (TE×TE)):TE:=λσ H Q=>∀p,H p=none->nP trs σ (aC H p (.dK [])) λps H2=>H2 p=some (.dK [])/\∃kvs:List (fk×V),ps=kvs.map (λkv=>(kV kv.1,kv.2))/\kvs.length<=15/\Q (.ref p) (aC H2 p (.dK (om [] kvs)))
theorem BR{X:Cx}{pos:Pos}{keys:List (Option Expr)}{values:Kb}{trs:List (TE×TE)}(h:E5 X pos keys values trs)(hall:keys.all (·.isSome)=true)(hl:keys.length=values.length)(h0:keys≠[])
  (h15:keys.length<=15):PE X (.Dict keys values pos) (zh trs):=by
 intro pins s σ H Q I q;have hn:=I.hok.fresh (Jo s.heap.objs.size);have I1:=I.laid (a:=s.heap.objs.size) (o:=.dK []) (h':=s.heap.push {cls:=.type "dict",data:=.dict #[]}) (t':=s.toks) (λ_ _ q=>IS _ q) (Jo _) (Bw s.heap I.big);refine wpAny_Dict_walk (knd:=b7 X.prog X.w) hall hl h0 h15 (bM (h pins _ σ _ _ I1 (q _ hn)) λws s2 ⟨ps,H2,I2,rel,e,kvs,ep,lk,q2⟩=>?_);subst ep;obtain⟨rs,c,rk⟩:=oR (P:=X.prog) (w:=X.w) rel;obtain⟨z,hd,vs0,r0,dd⟩:=C7 I2.hok e;cases r0;refine⟨rs,c,dd,λh' dd' hs=>⟨.ref s.heap.objs.size,_,?_,rfl,q2⟩⟩;have hz:(om [] kvs).length<=sizeLine:=by
  have h1:=jf kvs [];rw[List.length_nil]at h1;rw[sizeLine_eq];omega
 have he:∃q,h'.get? s.heap.objs.size=some q:=let ⟨q,_,_,hq,_⟩:=dd';⟨q,hq⟩
 exact wL I2 (by rw[e];exact True.intro) hs he (zE hz hd (rk.merge .nil) dd')
structure M1(X:Cx)(o:Expr)(m:Str)(apos:Pos)(e:Expr)(cpos:Pos):Prop where
 base:attributeBase o m X.env (eval o X.env)=eval o X.env
 few:((backTo cpos (starEach [e] X.env)).all (λx=>!x.1)&&(backToKw cpos (keywordEach [] X.env)).all (λx=>x.1.isSome)
  && decide (([e]:List Expr).length+([]:List Keyword).length+(if([]:List Keyword).isEmpty then 0 else 1)<30))=true
 line:(apos.endLine==cpos.line)=true
 trees:backTo cpos (starEach [e] X.env)=[(false,eval e X.env)]
structure M2(X:Cx)(o:Expr)(m:Str)(apos:Pos)(e f:Expr)(cpos:Pos):Prop where
 base:attributeBase o m X.env (eval o X.env)=eval o X.env
 few:((backTo cpos (starEach [e,f] X.env)).all (λx=>!x.1)&&(backToKw cpos (keywordEach [] X.env)).all (λx=>x.1.isSome)
  && decide (([e,f]:List Expr).length+([]:List Keyword).length+(if([]:List Keyword).isEmpty then 0 else 1)<30))=true
 line:(apos.endLine==cpos.line)=true
 trees:backTo cpos (starEach [e,f] X.env)=[(false,eval e X.env),(false,eval f X.env)]
def F9(H:Hp)(a:Addr):Prop:=(∃kvs,Rd H a (.dK kvs))\/∃kvs,Rd H a (.dT kvs)
theorem DY{X:Cx}{pins:JU}{σ:St}{H:Hp}{s:JW}{a:Addr}(I:Inv X pins σ H s)(d:F9 H a) :
  s.TypeIs (.ref a) "dict"/\(∀b,Value.ref a=.ref b->∃ob,s.heap.get? b=some ob/\ob.dict=none)/\(a==sysModules)=false:=by
 rcases d with⟨kvs,e⟩ | ⟨kvs,e⟩
 ·obtain⟨_,hd,vs,_,dd⟩:=A6 I.hok e
  refine⟨dd.typeIs,λb q=>?_,hd⟩;cases q;obtain⟨ob,_,_,h1,h2,_⟩:=dd;exact⟨ob,h1,h2.2.1⟩
 ·obtain⟨_,hd,xs,_,dd⟩:=Et I.hok e
  refine⟨dd.typeIs,λb q=>?_,hd⟩;cases q;obtain⟨ob,_,_,h1,h2,_⟩:=dd;exact⟨ob,h1,h2.2.1⟩
section
variable {X:Cx}{pins:JU}{σ:St}{H:Hp}{s:JW}{a:Addr}{y d:V}{u r:Value}{o:Option V}{A:J8}{E:JS}
end
section
variable {X:Cx}{o e f:Expr}{apos cpos:Pos}{td ty tx:TE}
end
section
variable {X:Cx}{pins:JU}{σ:St}{H:Hp}{s:JW}{a:Addr}{kvs:List (fk×V)}{A:J8}{E:JS}
end
section
variable {X:Cx}{pins:JU}{σ:St}{H:Hp}{s:JW}{a:Addr}{y:V}{u:Value}{A:J8}{E:JS}
end
end L2
namespace Att
open PySem PySem.W PySem.Calls PyProof.Rows
theorem mL{P:Params}{h:Heap}:∀(ns:List Int) (vs:JX),WellAll P h vs (ns.map WData.int)->IntsAre vs ns:=by
 intro ns
 induction ns with
 |nil=>
  intro vs w;rw[List.map_nil]at w;cases w;exact .nil
 |cons n ns ih=>
  intro vs w;rw[Ju]at w;cases w with
  |cons a b=>
   cases a;exact .cons _ _ (ih _ b)
theorem yc{l:OpenLaw}{n:Nat}(hn:l.most=some n){P:Params}{h:Heap}{args:List WData}{vals:JX}
  (hpre:l.row.toRowW.claim.pre args=true) (hwl:WellAll P h vals args) :
  ∃a vs ns,vals=[Value.ref a]/\args=[WData.list (ns.map WData.int)]/\h.get? a=some {cls:=.type "list",data:=.seq vs.toArray}/\IntsAre vs ns/\ns.length<=n:=by
 have hsh:WShape.hasAll [] args [.list .int]=true:=(pre_splitW hpre).1;have hc:l.pre.holds [] {args:=args}=true:=(pre_splitW hpre).2;obtain⟨d,r,rfl,h1,h2⟩:=hasAllW_cons hsh;obtain rfl:=hasAllW_nil h2;obtain⟨xs,rfl,h3⟩:=hasW_list h1;obtain⟨ns,rfl⟩:=items_int h3;have hlen:ns.length<=n:=by
  unfold OpenLaw.pre at hc;have h4:(WTm.not (.lt (.lit (.int (n:Int))) (.len (.arg 0)))).holds [] {args:=[.list (ns.map .int)]}=true:=by
   have h4:=(holds_andW hc).1;rw[hn]at h4;exact h4
  have h5:=condW_of h4 (w_not (w_lt w_lit (w_len_list (w_arg rfl))));rw[IT]at h5;refine Nat.le_of_not_lt λq=>?_;have q':(n:Int)<((ns.length:Nat):Int):=by omega
  first
   | (rw[decide_eq_true q']at h5;exact absurd h5 nofun)
   | (simp at h5;omega)
 cases hwl with
 |cons w1 w2=>
  cases w2;cases w1 with
  |list ho hall=>exact⟨_,_,ns,rfl,rfl,ho,mL ns _ hall,hlen⟩
theorem yZ(l:OpenLaw)(args:List WData):l.row.toRowW.claim.post args (.bool true) args=true:=
 postW_of (r:=l.row.toRowW) (X:=(true==true))
  (show WShape.has [] (.bool true) .bool=true by first | rfl | decide | simp[WShape.has,WShape.arms,WShape.armsAll])
  (show(WTm.eq .res (.lit (.bool true))).value [] {args:=args,res:=some (.bool true),after:=args}=some (.bool (true==true)) from w_eq_bool (w_res rfl) w_lit) rfl
theorem attach_call{l:OpenLaw}{n:Nat}{q:J3}{loose:J4}{XP:(Str->Option Value)->Heap->Prop}{YP:World->Heap->Prop}{d:DefRec}
  (hn:l.most=some n) (hdf:d.params.defaults=[])
  (call:∀(w:J9) (s₀ s₁:JW) (mg mb:JZ) (fa:Addr) (o:Obj) (pm cd doc:Value) (a:Addr) (vs:JX) (ns:List Int),
   Ground q loose [] XP w s₀ mg mb s₁.heap->YP w s₁.heap ->
   s₁.heap.get? fa=some o->o.data=.func (docDef d.name d.params d.body d.scope pm cd doc)->s₁.heap.CodeRec cd d.name->mg d.name=some (.ref fa) ->
   s₁.heap.get? a=some {cls:=.type "list",data:=.seq vs.toArray}->IntsAre vs ns->ns.length<=n->s₁.gens=#[] ->
   codeAny (model l.prog w) callerA (.call (.ref fa) ⟨[.ref a],[]⟩) (λr s'=>r=.ok (.ret (.bool true))/\OldK s₁.heap s'.heap/\s'.os=s₁.os/\AllBare s'.gens) s₁) :
  WalkO q loose XP YP l.row.toRowW d [] (λf vs=>PySem.call f vs):=by
 intro w s₀ s₁ mg mb G Y fa o pm cd doc dV kV ho hd hcd hD hmg hg args vals as hpre hlay hrd hwl hlo;obtain rfl:dV=.none:=Dflts.none hD hdf;obtain rfl:kV=.none:=Dflts.noKw hD;obtain⟨a,vs,ns,rfl,rfl,hobj,hints,hlen⟩:=yc hn hpre hwl;refine enter_call (codeAny_mono (call w s₀ s₁ mg mb fa o pm cd doc a vs ns G Y ho (fd_plain hd) hcd hmg hobj hints hlen hg) λr s' hq=>?_);obtain⟨rfl,h2,h3,h4⟩:=hq;exact⟨.inl ⟨.bool true,.bool true,[],rfl,λ_=>rfl,.bool true,yZ l _,λ_=>⟨List.Pairwise.nil,λ_ hm=>(nomatch hm)⟩⟩,h2,h3,h4⟩
section
variable {prog:J3}{w:J9}{A:J8}{E:JS}{s:JW}{K:Frag}
noncomputable def Fz(h:Heap)(L d:Addr):List (Addr×Obj):=(List.range h.objs.size).filterMap λa=>if a=L\/a=d then none else(h.get? a).map λo=>(a,o)
end
end Att
namespace L2
open PySem PySem.Spec PyProof.Rows
theorem qh:∀{vs:JX} {ns:List Int},IntsAre vs ns->aY (ns.map V.int) vs
 |_,_,.nil=>.nil
 |_,_,.cons n t h=>.cons ⟨t,rfl⟩ (qh h)
def Ed(H:Hp):Prop:=∀b,H b=none\/∃o xs,H b=some (.frz o (.lst xs))
theorem AQ{P:J3}{w:J9}{K:JT}{mg mb:JZ}{CX:ia}{k:Nat}{fa a:Addr}{fd:J0}{x:Str}{sp:Sp}{s₁:JW}{vs:JX}{ns:List Int}
  (KX:K.In s₁.heap) (hns:s₁.heap.Ns mainGlobals mg) (hb:s₁.heap.Ns builtinsNs mb) (hbb:∀x:Str,x≠"__name__"->mb x=bootBuiltins x) (hlim:s₁.heap.NoLimit) (hg:s₁.gens=#[])
  (ha:s₁.heap.get? a=some {cls:=.type "list",data:=.seq vs.toArray}) (hi:IntsAre vs ns) (hl:ns.length<=sizeLine) (hr:b_ k callerA)
  (F:∀base:Heap,K.In base->base.Ns mainGlobals mg->bb P w K mg base CX k fa fd [x] sp) (hbind:∀(s:JW) (u:Value),BindsTo s fd ⟨[u],[]⟩ [(x,u)])
  (hsp:∀H:Hp,Ed H->aW K H a (ns.map V.int)->sp [.ref a] H (λv _=>v=.bl true) λ_ _ _=>False)
  (hCX:∀H e s',CX [] H s₁ (λ_ _ _=>False) e s'->False) :
  codeAny (model P w) callerA (.call (.ref fa) ⟨[.ref a],[]⟩) (λr s'=>r=.ok (.ret (.bool true))/\OldK s₁.heap s'.heap/\s'.os=s₁.os/\AllBare s'.gens) s₁:=by
 have rv:=qh hi;have lenV:=hi.length
 -- from an abstract heap in which nothing but the script may be tracked
 have core:∀H:Hp,Ed H->aW K H a (ns.map V.int)->jk P w H s₁.heap->(∀b,H b≠none->b=a)->(H a≠none->K.lookup a=none) ->
   codeAny (model P w) callerA (.call (.ref fa) ⟨[.ref a],[]⟩) (λr s'=>r=.ok (.ret (.bool true))/\OldK s₁.heap s'.heap/\s'.os=s₁.os/\AllBare s'.gens) s₁:=by
  intro H hO hS hok hA hK;have base_of:∀{b:Addr} {o:Obj},s₁.heap.get? b=some o->H b=none->(sV s₁.heap H).get? b=some o:=λe n=>zS e n;have noA:∀{b:Addr} {o:Obj} {es:Array DictEntry} {ep:Nat},s₁.heap.get? b=some o->o.data=.dict es ep->H b=none:=fun{b o es ep} e d=>by
   cases q:H b with
   |none=>rfl
   |some u=>
    have e':b=a:=hA b (by rw[q];simp);subst e';rw[ha]at e;cases e
    have d':Data.seq vs.toArray _=Data.dict es ep:=d;cases d'
  have nsK:∀{b:Addr} {m:JZ},s₁.heap.Ns b m->(sV s₁.heap H).Ns b m:=fun{b m} ⟨o,es,ep,e,d,r⟩=>⟨o,es,ep,base_of e (noA e d),d,r⟩;have hKb:K.In (sV s₁.heap H):=λb o e=>base_of (KX b o e) (by
   cases q:H b with
   |none=>rfl
   |some u=>
    have e':b=a:=hA b (by rw[q];simp);subst e';rw[hK (by rw[q];simp)]at e;cases e)
  have hM:Mod K mg (sV s₁.heap H):=⟨hKb,nsK hns,⟨mb,nsK hb,hbb⟩,let ⟨mc,h1,h2⟩:=hlim;⟨mc,nsK h1,h2⟩⟩;have e0:nQ P w K mg (sV s₁.heap H) callerA [] s₁ H:=⟨rfl,hM,λb o e=>Cp e,Nat.le_of_eq (y0 _ _),trivial,λb hb=>absurd (show b∈([]:List Addr) from hb) (by simp),hok,.of_eq hg⟩;refine codeAny_mono ((F _ hKb (nsK hns)).run callerA [] s₁ H ⟨[.ref a],[]⟩ [.ref a] [.ref a] _ _ hr e0 (hbind s₁ (.ref a)) (.cons rfl .nil) (hsp H hO hS)) λr s' h=>?_;cases r with
  |error e=>exact(hCX H e s' h).elim
  |ok fl=>
   cases fl with
   |next=>exact False.elim h
   |brk=>exact False.elim h
   |cont=>exact False.elim h
   |ret u=>
    obtain⟨v,H',os,bare,un,hok',r',q⟩:=h;have q':v=.bl true:=q;subst q';obtain rfl:u=Value.bool true:=r';refine⟨rfl,OldK.of_keep λb o e=>?_,os,bare⟩;cases q:H b with
    |none=>exact un.keep b o e q (by intro z;exact absurd (show b∈([]:List Addr) from z) (by simp)) (by simp)
    |some u=>
     rcases hO b with z | ⟨ob,xs,z⟩
     ·rw[q]at z;cases z
     ·have z2:=un.frzs b ob _ z
      obtain⟨e1,_⟩:=hok b _ z;obtain⟨e2,_⟩:=hok' b _ z2;rw[e]at e1;cases e1
      exact e2
 cases hk:K.lookup a with
 |some o=>
  -- the script is one of the module's own objects
  have e:=KX a o hk;rw[ha]at e;cases e;refine core (λ_=>none) (λ_=>.inl rfl) (.inr ⟨_,vs.toArray,_,hk,rfl,rfl,rfl,by rw[IZ,lenV];exact hl,by simpa using rv⟩) (λb u z=>by have z':(none:Option HO)=some u:=z;cases z') (λb z=>absurd rfl z) λz=>absurd rfl z
 |none=>
  refine core (λb=>if b=a then some (.frz {cls:=.type "list",data:=.seq vs.toArray} (.lst (ns.map V.int))) else none) (λb=>?_) (.inl (.inr ⟨{cls:=.type "list",data:=.seq vs.toArray},if_pos rfl⟩)) (λb u z=>?_) (λb z=>?_) λ_=>hk
  ·by_cases hb:b=a
   ·exact .inr ⟨_,_,if_pos hb⟩
   ·exact .inl (if_neg hb)
  ·by_cases hb:b=a
   ·have z':=(if_pos hb).symm.trans z
    cases z';subst hb;exact⟨ha,by rw[IT];exact hl,vs,_,rv,ha⟩
   ·have z':=(if_neg hb).symm.trans z
    cases z'
  ·by_cases hb:b=a
   ·exact hb
   ·exact absurd (if_neg hb) z
theorem walk_of{l:PySem.W.OpenLaw}{n k:Nat}{q:J3}{loose:J4}{XP:(Str->Option Value)->Heap->Prop}{YP:World->Heap->Prop}{d:DefRec}{K:Params->PySem.W.Frag}{CX:World->ia}{sp:World->Sp}{x:Str}
  (hn:l.most=some n) (hn2:n<=sizeLine) (hdf:d.params.defaults=[]) (hr:b_ k callerA)
  (hY:∀(w:J9) (h:Heap),YP w h->(K w.params).In h)
  (F:∀(w:J9) (mg:JZ) (fa:Addr) (h:Heap),(K w.params).In h->h.Ns mainGlobals mg->mg d.name=some (.ref fa) ->
   ∃fd:FuncData,(∀(s:JW) (u:Value),BindsTo s fd ⟨[u],[]⟩ [(x,u)]) /\
    ∀base:Heap,(K w.params).In base->base.Ns mainGlobals mg->bb l.prog w (K w.params) mg base (CX w) k fa fd [x] (sp w))
  (hsp:∀(w:J9) (H:Hp) (a:Addr) (ns:List Int),ns.length<=n->Ed H->aW (K w.params) H a (ns.map V.int)->sp w [.ref a] H (λv _=>v=.bl true) λ_ _ _=>False)
  (hCX:∀(w:J9) (H:Hp) (s:JW) (e:Value) (s':JW),CX w [] H s (λ_ _ _=>False) e s'->False) :
  PySem.W.WalkO q loose XP YP l.row.toRowW d [] (λf vs=>PySem.call f vs):=by
 refine Att.attach_call hn hdf λw s₀ s₁ mg mb fa o pm cd doc a vs ns G Y ho hd hcd hmg hobj hints hlen hg=>?_;have KX:=hY w _ Y;obtain⟨fd,hb,hF⟩:=F w mg fa _ KX G.T.g hmg;exact AQ KX G.T.g G.T.b G.T.builtins G.T.nolimit hg hobj hints (Jw hlen hn2) hr hF hb (λH hO hS=>hsp w H a ns hlen hO hS) λH e s'=>hCX w H s₁ e s'
noncomputable def bz(s:Stmt):Arguments:=match s with
 | .FunctionDef _ a _ _ _ _ _ _ _ _=>a
 |_=>{posonlyargs:=[],args:=[],vararg:=none,kwonlyargs:=[],kw_defaults:=[],kwarg:=none,defaults:=[]}
noncomputable def bj(s:Stmt):List Stmt:=match s with
 | .FunctionDef _ _ b _ _ _ _ _ _ _=>b
 |_=>[]
noncomputable def ak(s:Stmt):Scope:=match s with
 | .FunctionDef _ _ _ _ _ _ sc _ _ _=>sc
 |_=>{kind:=.function,names:=[],isGenerator:=false,isCoroutine:=false}
noncomputable abbrev bD:ia:=λ_ _ _ _ _ _=>False
noncomputable abbrev E0:XK:=λ_ _ _=>False
theorem ba{X:Cx}:cu bD X E0:=λ_ _ _ _ _ _ _ h=>h.elim
structure cF(K:JT)(x qual:Str)(st:Stmt)(f:Addr)(fd:J0):Prop where
 ex:∃(oc:Value) (od:Ka) (kV doc pm:Value) (an:Ka) (cdv ct:Value) (osl:Array (Option Value)),
  fd=PySem.W.fnOf x qual (bz st) (bj st) (ak st) .none kV doc pm an cdv ct/\K.lookup f=some ⟨oc,od,.func fd,osl⟩/\PySem.W.codeIn K cdv qual=true
 kp:PySem.W.keepIn K (.ref f)=true
section
variable {P:J3}{w:J9}{K:JT}{mg:JZ}{base:Heap}
theorem cF.ok{x qual:Str}{st:Stmt}{f:Addr}{fd:J0}{N ps:J4}{k:Nat}{sp:Sp}(F:cF K x qual st f fd)(S:aE N ps (ak st))(len:∀vs H Q E,sp vs H Q E->vs.length=ps.length)
  (hbody:∀(cdv:Value) (A:J8) (outer:List Env) (s:JW) (H:Hp) (vs:List V) (Q:VK) (E:XK),b_ k (A.deeper (envOfC qual (ak st) s.heap.objs.size f cdv))->sp vs H Q E ->
   ∃t,o9 (cW bD P w K mg base N qual (ak st) f cdv A outer s H E).nox (bj st) t/\t {nx:=λ_ H'=>Q .non H',rt:=Q} (start N vs) H):bb P w K mg base bD (k+1) f fd ps sp:=by
 obtain⟨oc,od,kV,doc,pm,an,cdv,ct,osl,rfl,lk,hcd⟩:=F.ex;refine AR lk hcd S len λA outer s H vs Q E hr hsp=>?_;obtain⟨t,h,q⟩:=hbody cdv A outer s H vs Q E hr hsp;exact⟨t,h.nox,q⟩
theorem cF.binds{x qual:Str}{st:Stmt}{f:Addr}{fd:J0}{ps:J4}(F:cF K x qual st f fd)
  (h:∀(kV doc pm:Value) (an:Ka) (cdv ct:Value) (us:JX),us.length=ps.length->bindArgs (PySem.W.fnOf x qual (bz st) (bj st) (ak st) .none kV doc pm an cdv ct) ⟨us,[]⟩=pure (ps.zip us)):cI K fd ps []:=by
 obtain⟨oc,od,kV,doc,pm,an,cdv,ct,osl,rfl,lk,hcd⟩:=F.ex;exact .all (h kV doc pm an cdv ct)
theorem cG{x qual:Str}{st:Stmt}{f:Addr}{oc:Value}{od an:Ka}{osl:Array (Option Value)}{kV doc pm cdv ct:Value}(l:K.lookup f=some ⟨oc,od,.func (PySem.W.fnOf x qual (bz st) (bj st) (ak st) .none kV doc pm an cdv ct),osl⟩)
  (c:PySem.W.codeIn K cdv qual=true) (k:PySem.W.keepIn K (.ref f)=true):cF K x qual st f (PySem.W.fnOf x qual (bz st) (bj st) (ak st) .none kV doc pm an cdv ct):=⟨⟨oc,od,kV,doc,pm,an,cdv,ct,osl,rfl,l,c⟩,k⟩
end
section
variable {X:Cx}
theorem pv(i:Nat){x:Str}{pos:Pos}(hN:autoParam (X.N[i]?=some x) zz0._auto_1)(hv:autoParam (EZ X.env.scope x) zz5._auto_1)(hd:autoParam ((x==("__debug__":Str))=false) zz1._auto_1)
  (hcd:autoParam ((x==("__classdict__":Str))=false) zz1._auto_1):PE X (.Name x pos) (yH i):=Eh hN hv hd hcd
theorem qc:fb X (.builtin "len") (λxs H Q=>∃a kvs,xs=[V.ref a]/\H a=some (.dK kvs)/\Q (.int kvs.length) H):=by
 intro pins s σ H xs us Q I r h;obtain⟨a,kvs,rfl,ha,q⟩:=h;obtain⟨u,rfl,ru⟩:=tI r;cases ru;exact Es I (.inl ha) λt s' I'=>⟨.int kvs.length,H,I',⟨t,rfl⟩,q⟩
end
def az(H H':Hp):Prop:=∀b o,H b=some o->H' b=some o
theorem az.refl(H:Hp):az H H:=λ_ _ h=>h
theorem az.trans{H H1 H2:Hp}(a:az H H1)(b:az H1 H2):az H H2:=λc o h=>b c o (a c o h)
theorem az.free{H H':Hp}(e:az H H'){l:Addr}(h:H' l=Option.none):H l=Option.none:=by
 cases q:H l with
 |none=>rfl
 |some o=>
  rw[e l o q]at h;cases h
theorem az.seq{K:JT}{H H':Hp}{a:Addr}{xs:List V}(e:az H H')(h:aW K H a xs):aW K H' a xs:=by
 rcases h with(h | ⟨o,h⟩) | h
 ·exact .inl (.inl (e _ _ h))
 ·exact .inl (.inr ⟨o,e _ _ h⟩)
 ·exact .inr h
section
variable {κ:Type}[DecidableEq κ]
theorem Bx{kvs:List (κ×V)}{k:κ}(h:fm kvs k=none):¬ k∈kvs.map (·.1):=by
 intro m;obtain⟨p,hp,e⟩:=JG.mp m;have q:(kvs.any λkv=>decide (kv.1=k))=true:=List.any_eq_true.mpr ⟨p,hp,decide_eq_true e⟩;rw[nF,h]at q;exact absurd q (by simp)
end
end L2
namespace PySem
open Sem (wp)
open Builtin Builtin.Str Builtin.Int
namespace F
theorem lO:Manifest.owners.lookup "reversed"=some Manifest.sig_reversed:=by kernel_rfl
theorem slot_rvs_next:Slot "reversed" "__next__" "reversed.__next__":=
 .of (owner:="reversed") (n:="__next__") (by rw[typeLookup_type,builtinLookup_eq_fast];kernel_rfl) (by decide +kernel) (by decide +kernel) (by decide +kernel)
  (by first | exact .inl (by decide +kernel) | exact .inr (by decide +kernel)) (by rw[isSubtype_type];kernel_rfl)
theorem entry_rvs_next:entryFor table "reversed.__next__"=some Builtin.«reversed.__next__»:=entryFor_of_tree (by kernel_rfl)
theorem slot_rvs_iter:Slot "reversed" "__iter__" "reversed.__iter__":=
 .of (owner:="reversed") (n:="__iter__") (by rw[typeLookup_type,builtinLookup_eq_fast];kernel_rfl) (by decide +kernel) (by decide +kernel) (by decide +kernel)
  (by first | exact .inl (by decide +kernel) | exact .inr (by decide +kernel)) (by rw[isSubtype_type];kernel_rfl)
theorem nolen_rvs:typeLookup (.type "reversed") "__len__"=pure none:=by rw[typeLookup_type,builtinLookup_eq_fast];kernel_rfl
theorem hint_rvs:typeLookup (.type "reversed") "__length_hint__"=pure (some (.builtin "reversed.__length_hint__")):=by rw[typeLookup_type,builtinLookup_eq_fast];kernel_rfl
theorem args_rvs_next_1(a:Value):argsOk "reversed.__next__" ⟨[a],[]⟩:=by
 unfold argsOk;rw[signature?_of (id:="reversed.__next__") (n:=['_','_','t','x','e','n','_','_']) (o:=['d','e','s','r','e','v','e','r']) (by kernel_rfl) lO];kernel_rfl
theorem args_rvs_iter_1(a:Value):argsOk "reversed.__iter__" ⟨[a],[]⟩:=by
 unfold argsOk;rw[signature?_of (id:="reversed.__iter__") (n:=['_','_','r','e','t','i','_','_']) (o:=['d','e','s','r','e','v','e','r']) (by kernel_rfl) lO];kernel_rfl
theorem entry_rvs_iter:entryFor table "reversed.__iter__"=some Builtin.«dict_keyiterator.__iter__»:=
 entryFor_alias (id':="dict_keyiterator.__iter__") (by kernel_rfl) (by first | rfl | decide +kernel | (unfold String.splitOn;simp +decide [String.splitOnAux])) (by decide +kernel) (by kernel_rfl)
theorem slot_rvs_hint:Slot "reversed" "__length_hint__" "reversed.__length_hint__":=
 .of (owner:="reversed") (n:="__length_hint__") (by rw[typeLookup_type,builtinLookup_eq_fast];kernel_rfl) (by decide +kernel) (by decide +kernel) (by decide +kernel)
  (by first | exact .inl (by decide +kernel) | exact .inr (by decide +kernel)) (by rw[isSubtype_type];kernel_rfl)
theorem entry_rvs_hint:entryFor table "reversed.__length_hint__"=some Builtin.«reversed.__length_hint__»:=entryFor_of_tree (by kernel_rfl)
theorem args_rvs_hint_1(a:Value):argsOk "reversed.__length_hint__" ⟨[a],[]⟩:=by
 unfold argsOk;rw[signature?_of (id:="reversed.__length_hint__") (n:=['_','_','t','n','i','h','_','h','t','g','n','e','l','_','_']) (o:=['d','e','s','r','e','v','e','r']) (by kernel_rfl) lO];kernel_rfl
end F
section
variable {prog:J3}{w:J9}{A:J8}{E:JS}{s:JW}
noncomputable def wy(x:Str)(t:Tok)(i:Int):Obj:={cls:=.type "reversed",data:=.fields #[.str x t,rawInt i]}
def Heap.IsRvs(h:Heap)(a:Addr)(x:Str)(t:Tok)(i:Int):Prop:=∃o,h.get? a=some o/\o.cls=.type "reversed"/\o.data=.fields #[.str x t,rawInt i]
theorem Heap.IsRvs.typeIs{a:Addr}{x:Str}{t:Tok}{i:Int}(y:s.heap.IsRvs a x t i):s.TypeIs (.ref a) "reversed":=let ⟨o,ho,hc,_⟩:=y;⟨o,ho,hc⟩
theorem Heap.IsRvs.at{h h':Heap}{a:Addr}{x:Str}{t:Tok}{i:Int}(y:h.IsRvs a x t i)(e:∀o,h.get? a=some o->h'.get? a=some o):h'.IsRvs a x t i:=let ⟨o,ho,r⟩:=y;⟨o,e _ ho,r⟩
theorem gX{it:Addr}{x:Str}{t:Tok}{i c:Nat}{Q:Option Value->Shared->Prop}(hit:s.heap.IsRvs it x t (i:Int))(hx:x.cps[i]?=some c)(hsz:i<2 ^ 63)
  (hQ:∀h' tk tk',h'.IsRvs it x t ((i:Int)-1)->Heap.SameBut it s.heap h'->Q (some (.str ⟨#[c]⟩ tk)) {s with heap:=h',toks:=tk' }):wpAny (model prog w) A (pyNext (.ref it)) Q E s:=by
 obtain⟨o,ho,hc,hd⟩:=id hit;have hlen:i<x.length:=(Array.getElem?_eq_some_iff.mp hx).1;unfold pyNext;refine wpAny_bind (wpAny_attempt (wpAny_callSpecial?_slot (name:=Str.ofString "__next__") hit.typeIs F.slot_rvs_next
  (wpAny_call_entry F.slot_rvs_next hit.typeIs F.entry_rvs_next ?_ (F.args_rvs_next_1 _))))
 unfold Builtin.«reversed.__next__»;refine wpAny_bind (wpAny_of_eq (a:=(Value.ref it,[])) rfl ?_)
 try dsimp only
 refine wpAny_bind (wpAny_field ho hd (x:=.str x t) rfl ?_);refine wpAny_bind (wpAny_field ho hd (x:=rawInt (i:Int)) rfl ?_);show wpAny _ _ (if(i:Int)<0 then _ else _) _ _ s;rw[if_neg ⋯];refine wpAny_bind (wpAny_specialOf (typeIs_str s x t) F.slot_str_getitem.lookup ?_)
 try dsimp only
 first
 |rw[if_neg (show ¬ ((some (Value.builtin "str.__getitem__")).isNone=true) from Jq)]
 |skip
 refine wpAny_bind (wpAny_mkInt ?_);refine wpAny_bind (wpAny_attempt ?_);have hb:(seqIndex? (i:Int) x.length).bind (x.cps[·]?)=some c:=by
  have e:seqIndex? (i:Int) x.length=some i:=by
   have hn:¬ ((i:Int)<0):=by omega
   unfold seqIndex?;simp[hn,hlen]
  rw[e];exact hx
 refine P.getItem_str (c:=c) (by simp;omega) hb ?_;dsimp only;refine wpAny_bind (wpAny_field ho hd (x:=rawInt (i:Int)) rfl ?_);show wpAny _ _ (setField (Value.ref it) 1 (rawInt ((i:Int)-1)) >>= λ_=>ret (Value.str ⟨#[c]⟩ _)) _ _ _;refine wpAny_bind (wpAny_setField ho hd (by simp) ?_);refine wpAny_pure ⟨_,rfl,wpAny_pure (hQ _ _ _ ?_ (Heap.SameBut.update ..))⟩;exact⟨_,Jb _ ho (Obj.isFreed_of_fields (Obj.data_mapFields hd _)),(Obj.cls_mapFields ..).trans hc,by
  rw[Obj.data_mapFields hd];simp⟩
theorem h_{it:Addr}{x:Str}{t:Tok}{Q:Option Value->Shared->Prop}(hh:A.handled=none)(hit:s.heap.IsRvs it x t (-1))
  (hQ:∀h',Heap.ExtBut it s.heap h'->Q none {s with heap:=h' }):wpAny (model prog w) A (pyNext (.ref it)) Q E s:=by
 obtain⟨o,ho,hc,hd⟩:=id hit;unfold pyNext;refine wpAny_bind (wpAny_attempt (wpAny_callSpecial?_slot (name:=Str.ofString "__next__") hit.typeIs F.slot_rvs_next
  (wpAny_call_entry F.slot_rvs_next hit.typeIs F.entry_rvs_next ?_ (F.args_rvs_next_1 _))))
 unfold Builtin.«reversed.__next__»;refine wpAny_bind (wpAny_of_eq (a:=(Value.ref it,[])) rfl ?_)
 try dsimp only
 refine wpAny_bind (wpAny_field ho hd (x:=.str x t) rfl ?_);refine wpAny_bind (wpAny_field ho hd (x:=rawInt (-1)) rfl ?_);show wpAny _ _ (if(-1:Int)<0 then _ else _) _ _ s;rw[if_pos nofun];refine wpAny_bind (wpAny_rule ?_);show wpAny _ _ ((setField (Value.ref it) 1 (rawInt (-1)) >>= λ_=>setField (Value.ref it) 0 .none) >>= _) _ _ _;refine wpAny_bind (wpAny_bind (wpAny_setField ho hd (by simp) ?_));have ho1:=Jb (Obj.mapFields (·.setIfInBounds 1 (rawInt (-1)))) ho (Obj.isFreed_of_fields (Obj.data_mapFields hd _));refine wpAny_setField ho1 (Obj.data_mapFields hd _) (by simp) ?_;dsimp only;show wpAny _ _ (SmallTypes.stopIteration >>= _) _ _ _;refine wpAny_bind ?_;unfold SmallTypes.stopIteration
 first
 |show wpAny _ _ (newExc (.type "StopIteration") [] >>= _) _ _ _
 | (refine wpAny_bind ?_;show wpAny _ _ (newExc (.type "StopIteration") [] >>= _) _ _ _)
 refine wpAny_bind ?_;simp only[newExc,newTuple];refine wpAny_bind (wpAny_newObj_type ?_ (by size_fits));refine wpAny_bind (m:=firstArgMember _ _) (wpAny_of_eq (a:=Value.none) (by first | rfl | (simp only[firstArgMember];rfl)) ?_);refine wpAny_newObj_type ?_ (by size_fits);simp only[raiseNew];refine wpAny_bind (wpAny_handled ?_)
 first | rw[show A.in1.handled=none from hh] | rw[hh]
 refine wpAny_bind (wpAny_pure (wpAny_throw ?_));refine wpAny_bind (wpAny_isInstance (T:="StopIteration") (b:=true) ⟨_,IY _ rfl,rfl⟩ isSubtype_stop ?_);refine wpAny_pure (hQ _ ?_);intro b ob hb eb;exact IS _ (IS _ ((IX _ _ (Ne.symm hb)).trans ((IX _ _ (Ne.symm hb)).trans eb)))
theorem fN{it:Addr}{x:Str}{t:Tok}{i:Int}{Q:JS}(hit:s.heap.IsRvs it x t i)(h:Q (.ref it) s):wpAny (model prog w) A (pyIter (.ref it)) Q E s:=by
 refine wpAny_pyIter_slot hit.typeIs F.slot_rvs_iter (wpAny_call_entry F.slot_rvs_iter hit.typeIs F.entry_rvs_iter ?_ (F.args_rvs_iter_1 _));show wpAny _ _ (ret (.ref it)) _ _ s;exact wpAny_pure ⟨_,rfl,"reversed",_,hit.typeIs,F.slot_rvs_next.lookup,h⟩
theorem hint_rvs{it:Addr}{x:Str}{t:Tok}{i:Int}{Q:JS}(hit:s.heap.IsRvs it x t i)(hi:i<x.length)(hz:x.length<=sizeLine)
  (h:∀u tk,s.toks<=tk->Q (.int (i+1) u) {s with toks:=tk}):wpAny (model prog w) A (call (.builtin "reversed.__length_hint__") [.ref it]) Q E s:=by
 obtain⟨o,ho,hc,hd⟩:=id hit;refine wpAny_call_entry F.slot_rvs_hint hit.typeIs F.entry_rvs_hint ?_ (F.args_rvs_hint_1 _);unfold Builtin.«reversed.__length_hint__»;refine wpAny_bind (wpAny_of_eq (a:=Value.ref it) rfl ?_);refine wpAny_bind (wpAny_field ho hd (x:=.str x t) rfl ?_);show wpAny _ _ (if(Value.str x t==Value.none)=true then _ else _) _ _ s;rw[if_neg (show ¬ ((Value.str x t==Value.none)=true) from λz=>by cases(eq_of_beq z))];have hs:sizeLine=16777216:=sizeLine_eq;refine wpAny_bind (P.len_str ⋯ ?_);refine wpAny_bind (m:=asInt? _) (wpAny_pure ?_);dsimp only;refine wpAny_bind (wpAny_field ho hd (x:=rawInt i) rfl ?_);show wpAny _ _ (if(x.length:Int)<i+1 then _ else _) _ _ _;rw[if_neg ⋯];show wpAny _ _ (mkInt (i+1) >>= λv=>ret v) _ _ _;exact wpAny_bind (wpAny_mkInt (wpAny_pure ⟨_,rfl,h _ _ (by simp;omega)⟩))
theorem Walks.rvs{A:J8}(hh:A.handled=none)(I:Addr)(x:Str)(t:Tok)(hz:x.length<=sizeLine) :
  Walks prog w A I [I] [I] x.length (λi v=>∃c tk,x.cps[x.length-1-i]?=some c/\v=.str ⟨#[c]⟩ tk) (λi h=>i<=x.length/\h.IsRvs I x t ((x.length:Int)-1-(i:Int))) where
 sub:=λb hb=>hb
 frame:=λ_ _ _ y hk=>⟨y.1,y.2.at λo e=>hk I (by simp) o e⟩
 item:=λi s Q E hi y hQ=>by
  have e:(x.length:Int)-1-(i:Int)=((x.length-1-i:Nat):Int):=by omega
  have hit:=y.2;rw[e]at hit;have hb:x.length-1-i<x.cps.size:=by have:x.length=x.cps.size:=rfl;omega
  have hx:x.cps[x.length-1-i]?=some (x.cps[x.length-1-i]'hb):=Array.getElem?_eq_getElem hb;have hs:sizeLine=16777216:=sizeLine_eq;refine gX hit hx ⋯ λh' tk tk' hit' hs'=>?_;have e2:((x.length-1-i:Nat):Int)-1=(x.length:Int)-1-((i+1:Nat):Int):=by omega
  rw[e2]at hit';exact hQ _ h' tk' ⟨_,tk,hx,rfl⟩ ⟨hi,hit'⟩ λb o hb eo=>hs'.extBut b o (λh=>hb (by simp[h])) eo
 done:=λs Q E y hQ=>by
  have e:(x.length:Int)-1-(x.length:Int) = -1:=by omega
  have hit:=y.2;rw[e]at hit;exact h_ hh hit λh' he'=>hQ h' s.toks λb o hb eo=>he' b o (λh=>hb (by simp[h])) eo
 self:=λ_ _ _ _ y hQ=>fN y.2 hQ
theorem kf{I:Addr}{x:Str}{t:Tok}{Q:List Value->Shared->Prop}(hh:A.handled=none)(hit:s.heap.IsRvs I x t ((x.length:Int)-1))(hz:x.length<=sizeLine)
  (hQ:∀s' acc,Moved [I] (λa b=>b=a) s s'->ItemsOf (λi v=>∃c tk,x.cps[x.length-1-i]?=some c/\v=.str ⟨#[c]⟩ tk) acc x.length->Q acc.toList s'):wpAny (model prog w) A (collect (.ref I)) Q E s:=by
 have W:=(Walks.rvs (prog:=prog) (w:=w) (A:=A.in1) hh I x t hz).toS;have hn:x.length<=sizeLine:=hz;have hst:(λi (s:JW)=>i<=x.length/\s.heap.IsRvs I x t ((x.length:Int)-1-(i:Int))) 0 s:=⟨Jp _,by simpa using hit⟩;have hT:∀i (s:JW),(i<=x.length/\s.heap.IsRvs I x t ((x.length:Int)-1-(i:Int)))->s.TypeIs (.ref I) "reversed":=λi s y=>y.2.typeIs;have hlt:I<s.heap.objs.size:=by obtain⟨o,ho,_⟩:=hit;exact Jr ho
 have hSI:s.heap.objs.size≠I:=λe=>Jx _ (e▸hlt);have hSf:s.heap.objs.size∉[I]:=λhm=>hSI (IU.mp hm);unfold collect;refine wpAny_bind (wpAny_runValue (codeAny_builtin F.entry_proto_collect ?_));rw[Around.under_plainId F.plain_proto_collect _];show wpAny _ A.in1 (newList [] >>= λl=>again (.builtin "list.__iadd__" ⟨[l,.ref I],[]⟩)) _ _ s;refine wpAny_bind (wpAny_newObj_type ?_);refine wpAny_pure ⟨plainId_quiet F.plain_list_iadd _,codeAny_builtin F.entry_list_iadd ?_⟩;rw[Around.under_plainId F.plain_list_iadd _];have hst₁:=W.frame 0 s (s.heap.push {cls:=.type "list",data:=.seq ([]:List Value).toArray}) s.toks hst (Jo _) λb _ o e=>IS _ e;have hS₁:(s.heap.push {cls:=.type "list",data:=.seq ([]:List Value).toArray}).get? s.heap.objs.size=some {cls:=.type "list",data:=.seq ([]:List Value).toArray}:=IY _ rfl;have h1:Builtin.List.listSameRef (.ref s.heap.objs.size) (.ref I)=false:=by simp[Builtin.List.listSameRef,hSI]
 show wpAny _ A.in1 (Builtin.List.listExtendWith (.ref s.heap.objs.size) (.ref I) (.ref s.heap.objs.size)) _ _ _;unfold Builtin.List.listExtendWith;refine wpAny_bind (wpAny_typeOf (hT 0 _ hst₁) ?_);rw[if_neg (by rw[h1];decide)];refine wpAny_bind (W.self 0 _ _ _ hst₁ ?_);refine wpAny_bind (wpAny_holding ?_);unfold Builtin.List.listLengthHint;refine wpAny_bind (wpAny_specialOf (hT 0 _ hst₁) F.nolen_rvs ?_);show wpAny _ A.in1 (specialOf (Value.ref I) (Str.ofString "__length_hint__") >>= _) _ _ _;refine wpAny_bind (wpAny_specialOf (hT 0 _ hst₁) F.hint_rvs ?_)
 (generalize hid:("reversed.__length_hint__":String)=id0;(fail_if_success (clear hid id0));wp_delta;rw[show splitId id0=some ("reversed","__length_hint__") from by subst hid;decide +kernel];subst hid)
 refine wpAny_bind (wpAny_isInstance (b:=true) (hT 0 _ hst₁) (by rw[isSubtype_type];kernel_rfl) ?_);rw[if_neg (show ¬ ((!true)=true) by decide)];dsimp only
 split
 ·rename_i hsil
  exact absurd hsil (by decide +kernel)
 refine wpAny_bind (wpAny_rule ?_);refine wpAny_bind (wpAny_of_eq (F.slot_rvs_hint.bind _) ?_);dsimp only;refine wpAny_bind (wpAny_attempt ?_);refine hint_rvs (i:=(x.length:Int)-1-((0:Nat):Int)) hst₁.2 ⋯ hz λu tk htk=>?_;dsimp only;have hs:sizeLine=16777216:=sizeLine_eq;have hk:Builtin.List.listTooLong (Int.toNat ((x.length:Int)-1-((0:Nat):Int)+1))=false:=by
  unfold Builtin.List.listTooLong;have e:Int.toNat ((x.length:Int)-1-((0:Nat):Int)+1)=x.length:=by omega
  rw[e]
  simpa using hz
 refine wpAny_bind (m:=asInt? (.int _ u)) (wpAny_pure ?_);dsimp only;have hfit:Builtin.List.listFitsIndex ((x.length:Int)-1-((0:Nat):Int)+1)=true:=by
  unfold Builtin.List.listFitsIndex;simp;omega
 rw[if_neg (by rw[hfit];decide),if_neg ⋯,if_neg (by rw[hk];decide)];refine wpAny_pure ?_
 -- the loop,from a list that may have been touched
 have fin:∀(h₂:Heap) (c:Nat),(∀b o,b≠s.heap.objs.size->(s.heap.push {cls:=.type "list",data:=.seq ([]:List Value).toArray}).get? b=some o->h₂.get? b=some o) ->
   h₂.get? s.heap.objs.size=some {cls:=.type "list",data:=.seq ([]:List Value).toArray c} ->
   codeAny (model prog w) A (.builtin "list.extend.loop" ⟨[.ref s.heap.objs.size,.ref I,.ref s.heap.objs.size],[]⟩) (λr s'=>match r with
    | .ok (.ret v)=>wpAny (model prog w) A (match v with
     | .ref a=>do
      let __do_lift <- load a
      match __do_lift.data with
       | .seq xs _=>pure xs.toList
       |_=>unsupported "internal:collect"
     |_=>unsupported "internal:collect") Q E s'
    | .ok _=>False
    | .error e=>E e s') {s with heap:=h₂,toks:=tk}:=λh₂ c keep hS₂=>by
  have hst₂:(λi (s:JW)=>i<=x.length/\s.heap.IsRvs I x t ((x.length:Int)-1-(i:Int))) 0 {s with heap:=h₂,toks:=tk}:=⟨Jp _,hst₁.2.at λo e=>keep I o (Ne.symm hSI) e⟩;refine codeAny_extend_loopS W hn _ hSf _ x.length 0 _ _ _ rfl (Jp _) hst₂ hS₂ (ItemsOf.nil _) λs' acc' c' hm hS' hacc=>?_;show wpAny _ A (load s.heap.objs.size >>= _) _ _ s';refine wpAny_bind (wpAny_load hS' ?_);refine wpAny_pure (hQ s' acc' ?_ hacc);exact⟨λb ob hb e=>hm.heap b ob (λhm'=>by
    rcases Jg.mp hm' with e1 | hm'
    ·exact absurd (e1▸Jr e) (Jx _)
    ·exact hb hm') (keep b ob (λe1=>absurd (e1▸Jr e) (Jx _)) (IS _ e)),hm.gens,hm.drawn,hm.os,Jw htk hm.toks⟩
 have quiet:=plainId_quiet F.plain_extend_loop (⟨[.ref s.heap.objs.size,.ref I,.ref s.heap.objs.size],[]⟩:Args)
 split
 ·refine wpAny_bind (wpAny_rule ?_)
  show wpAny _ A.in1 ((updateSeq s.heap.objs.size (·.push .none) >>= λ_=>updateSeq s.heap.objs.size (·.pop)) >>= _) _ _ _;refine wpAny_bind (wpAny_bind (wpAny_updateSeq hS₁ rfl ?_ (by simp) (by simp)));have q1:=PySem.IsL.update (h:=s.heap.push {cls:=.type "list",data:=.seq ([]:List Value).toArray}) (l:=s.heap.objs.size) (items:=([]:List Value).toArray) (n:=0) hS₁ (·.push .none);refine wpAny_updateSeq q1 rfl ?_ (by simp;omega) (by simp);have q2:=PySem.IsL.update q1 (·.pop);exact wpAny_pure ⟨quiet,fin _ _ (λb o hb e=>(IX _ _ (Ne.symm hb)).trans ((IX _ _ (Ne.symm hb)).trans e)) (show _=some ({cls:=.type "list",data:=.seq ([]:List Value).toArray _}:Obj) from q2)⟩
 ·exact wpAny_pure ⟨quiet,fin _ _ (λb o hb e=>e) hS₁⟩
theorem Bz{I:Addr}{x sep:Str}{t t0:Tok}{Q:JS}(hh:A.handled=none)(hit:s.heap.IsRvs I x t ((x.length:Int)-1))(hz:x.length<=1000)(hsep:sep.length<=1000)
  (h:∀(s':JW) (t':Tok) (k:Nat),(∀b o,b≠I->s.heap.get? b=some o->s'.heap.get? b=some o)->s'.gens=s.gens->s'.drawn=s.drawn->s'.os=s.os ->
   Q (.str (Txt.join sep (x.cps.toList.reverse.map λc=>(⟨#[c]⟩:Str))) t') {s' with toks:=k}):wpAny (model prog w) A (call (.builtin "str.join") [.str sep t0,.ref I]) Q E s:=by
 have hs:sizeLine=16777216:=sizeLine_eq;refine wpAny_call (codeAny_call_builtin F.slot_str_join.plain F.entry_str_join (F.slot_str_join.check _ _ _ _ _ _ _ _ (typeIs_str _ _ _) (F.args_str_join_2 _ _) ?_));rw[join_tree_other];refine wpAny_bind (wpAny_typeOf hit.typeIs ?_);show wpAny _ A.in1 ((pyIter (.ref I)).tryCatch _ >>= λit=>collect it >>= λitems=>joinTail sep items) _ _ s;refine wpAny_bind (wpAny_tryCatch (fN hit ?_));refine wpAny_bind (kf hh hit ⋯ λs' acc hm hacc=>?_);obtain⟨l,hl⟩:=exists_strValues acc.toList λv hv=>by
  obtain⟨j,hj,rfl⟩:=Array.mem_iff_getElem.mp (Array.mem_toList_iff.mp hv);obtain⟨c,tk,_,e⟩:=hacc.2 j _ (Array.getElem?_eq_getElem hj);exact⟨_,_,e⟩
 have hlx:l.map (·.1)=x.cps.toList.reverse.map λc=>(⟨#[c]⟩:Str):=by
  have el:l.length=x.length:=by
   have q:=congrArg List.length hl;simp[strValues]at q;rw[q];exact hacc.1
  refine List.ext_getElem (by simp[el];rfl) λj h1 h2=>?_;simp only[List.getElem_map,List.getElem_reverse];have hj:j<l.length:=by simpa using h1
  have ha:acc.toList[j]?=some (Value.str (l[j]).1 (l[j]).2):=by
   rw[<- hl];simp[strValues,hj]
  have ha':acc[j]?=some (Value.str (l[j]).1 (l[j]).2):=by simpa using ha
  obtain⟨c,tk,hc,e⟩:=hacc.2 j _ ha'
  injection e with e1 _
  rw[e1];have hb:x.length-1-j<x.cps.size:=by have:x.length=x.cps.size:=rfl;omega
  rw[Array.getElem?_eq_getElem hb]at hc;have hc':=Option.some.inj hc;rw[<- hc'];simp only[Array.length_toList,Array.getElem_toList]
  rfl
 rw[<- hl];have hok:JoinOk sep (l.map (·.1))=true:=by
  unfold JoinOk;rw[StrLaws.joinTotal];have e1:((l.map (·.1)).map (·.length)).sum=x.length:=by
   rw[hlx,Jf];have:((λy:Str=>y.length)∘λc=>(⟨#[c]⟩:Str))=λ_=>1:=by funext c;rfl
   rw[this,List.map_const',List.sum_replicate_nat];simp
   rfl
  have e2:(l.map (·.1)).length=x.length:=by rw[hlx];simp;rfl
  rw[e1,e2];have:x.length*sep.length<=1000*1000:=Nat.mul_le_mul hz hsep;unfold tooLong;rw[decide_eq_false ⋯]
  rfl
 have hpost:=λt' k=>h s' t' k (λb o hb e=>hm.heap b o (λz=>hb (IU.mp z)) e) hm.gens hm.drawn hm.os;unfold JoinOk at hok;rw[Bool.not_eq_true']at hok;have g:Gives (joinTail sep (strValues l)) (joinMade sep l):=by
  have g0:=gives_joinTail sep l hok;cases l with
  |nil=>exact g0
  |cons p r=>cases r with
   |nil=>exact g0
   |cons q r'=>exact g0
 rw[<- hlx]at hpost;exact g prog w A (wants Q E) s' (post_join l ⟨joinFit_length hok,hpost⟩)
end
namespace F
theorem ph:Slot "reversed" "__init__" "object.__init__":=
 .of (owner:="object") (n:="__init__") (by rw[typeLookup_type,builtinLookup_eq_fast];kernel_rfl) (by decide +kernel) (by decide +kernel) (by decide +kernel)
  (by first | exact .inl (by decide +kernel) | exact .inr (by decide +kernel)) (by rw[isSubtype_type];kernel_rfl)
theorem xf:mroOf (.type "reversed")=pure [.type "reversed",.type "object"]:=by rw[mroOf_type];kernel_rfl
theorem mZ:typeLookup (.type "reversed") "__new__"=pure (some (.builtin "reversed.__new__")):=by rw[typeLookup_type,builtinLookup_eq_fast];kernel_rfl
theorem rvs_called:TypeCalled "reversed" "reversed.__new__" "object.__init__":=
 ⟨by decide +kernel,by decide +kernel,⟨_,_,xf⟩,madeBy_type xf mZ (by decide +kernel),by decide +kernel,by rw[isSubtype_type];kernel_rfl,ph⟩
theorem rvs_typeCall_1(a:Value):checkTypeCall "reversed" ⟨[a],[]⟩=pure ():=by kernel_rfl
theorem rvs_newCall_1(a:Value):checkBuiltinCall "reversed.__new__" ⟨[.type "reversed",a],[]⟩=pure ():=by kernel_rfl
theorem rvs_entry_new:entryFor table "reversed.__new__"=some Builtin.«reversed.__new__»:=entryFor_of_tree (by kernel_rfl)
theorem rvs_sub:isSubtype (.type "reversed") (.type "reversed")=pure true:=by rw[isSubtype_type];kernel_rfl
theorem rvs_nostr:typeLookup (.type "str") "__reversed__"=pure none:=by rw[typeLookup_type,builtinLookup_eq_fast];kernel_rfl
end F
section
variable {prog:J3}{w:J9}{A:J8}{E:JS}{s:JW}
theorem qO(a:Value):Builtin.SmallTypes.newClass "reversed" ⟨[.type "reversed",a],[]⟩=pure (.type "reversed",[a]):=by
 unfold Builtin.SmallTypes.newClass;simp only[isType,F.rvs_sub,pure_bind,Bool.not_true,Bool.false_eq_true,if_false]
theorem pH(x:Str)(t:Tok)(hz:x.length<=sizeLine):Meets (Builtin.«reversed.__new__» ⟨[.type "reversed",.str x t],[]⟩)
  (λ_ R s=>R (.ok (.ret (.ref s.heap.objs.size))) {s with heap:=s.heap.push (wy x t ((x.length:Int)-1)),toks:=s.toks+1+1}):=
 .of_wp λprog w A R s h=>by
  have hs:sizeLine=16777216:=sizeLine_eq;unfold Builtin.«reversed.__new__»;refine wpAny_bind (wpAny_of_eq (qO _) ?_)
  try dsimp only
  refine wpAny_bind (wpAny_of_eq (a:=()) (by first | rfl | kernel_rfl) ?_);refine wpAny_bind (wpAny_of_eq (a:=()) (by first | rfl | kernel_rfl) ?_)
  try dsimp only
  refine wpAny_bind (wpAny_specialOf (typeIs_str s x t) F.rvs_nostr ?_)
  try dsimp only
  refine wpAny_bind ?_;refine wpAny_bind (wpAny_isInstance (T:="str") (b:=false) (typeIs_str s x t) (by rw[isSubtype_type];kernel_rfl) ?_);rw[if_neg nofun];refine wpAny_bind (wpAny_specialOf (typeIs_str s x t) F.slot_str_getitem.lookup ?_);dsimp only
  split
  ·refine wpAny_pure ?_
   rw[if_neg nofun];refine wpAny_bind (P.len_str ⋯ ?_);refine wpAny_bind (m:=asInt? _) (wpAny_pure ?_);dsimp only;show wpAny _ _ (newObj (.type "reversed") (.fields #[.str x t,rawInt ((x.length:Int)-1)]) >>= λv=>ret v) _ _ _;exact wpAny_bind (wpAny_newObj_type (wpAny_pure ⟨_,rfl,h⟩))
  ·rename_i hn
   exact absurd (by decide +kernel) hn
theorem jU{x:Str}{t:Tok}{Q:JS}(hz:x.length<=sizeLine)
  (h:Q (.ref s.heap.objs.size) {s with heap:=s.heap.push (wy x t ((x.length:Int)-1)),toks:=s.toks+1+1}):wpAny (model prog w) A (call (.type "reversed") [.str x t]) Q E s:=
 callType_new F.rvs_called nofun (F.rvs_typeCall_1 _) (F.rvs_newCall_1 _) (λobj=>F.args_object_init_2 obj _) F.rvs_entry_new (pH x t hz) ⟨⟨_,IY _ rfl,rfl⟩,h⟩
end
end PySem
namespace L2
open PySem PySem.Spec PyProof.Rows
noncomputable def eM(env:Env):List (Str×NameKind)->List (Str×Addr)->List (Str×Addr)
 | [],acc=>acc
 | (n,k)::r,acc=>if k==.free then eM env r ((n,(env.cells.lookup n).getD 0)::acc) else eM env r acc
theorem lY{env:Env}:∀(ns:List (Str×NameKind)) (acc:List (Str×Addr)),(∀x∈ns,x.2=.free->∃c,env.cells.lookup x.1=some c) ->
  (forIn ns acc fun(x:Str×NameKind) (cs:List (Str×Addr))=>(if x.2==.free then do
    let c <- cellOf env x.1
    pure (ForInStep.yield ((x.1,c)::cs))
   else pure (ForInStep.yield cs):Sem (ForInStep (List (Str×Addr)))))=pure (eM env ns acc)
 | [],acc,_=>rfl
 | (n,k)::r,acc,h=>by
  have ih:=λa=>lY (env:=env) r a λx hx=>h x (Jh _ hx);rw[List.forIn_cons]
  by_cases hk:k=.free
  ·subst hk
   obtain⟨c,hc⟩:=h (n,.free) List.mem_cons_self rfl;have hc':env.cells.lookup n=some c:=hc;have e1:cellOf env n=pure c:=by unfold cellOf;rw[hc']
   simp only[eM,hc',Option.getD_some];show((do let c <- cellOf env n;pure (ForInStep.yield ((n,c)::acc))) >>= _)=_;rw[e1,pure_bind,pure_bind];exact ih _
  ·have e2:(k==NameKind.free)=false:=by simpa using hk
   simp only[eM,e2,Bool.false_eq_true,if_false];rw[pure_bind];exact ih _
theorem ig{env:Env}{scope:Scope}(h:∀x∈scope.names,x.2=.free->∃c,env.cells.lookup x.1=some c) :
  closureFor scope env=pure (eM env scope.names []):=by
 unfold closureFor;have e:=lY (env:=env) scope.names [] h;have e2:(forIn scope.names ([]:List (Str×Addr)) λx cs=>(match x with
   | (name,kind)=>if kind==.free then do
     let c <- cellOf env name
     pure (ForInStep.yield ((name,c)::cs))
    else pure (ForInStep.yield cs):Sem (ForInStep (List (Str×Addr)))))=pure (eM env scope.names []):=e
 simp only[]at e2 ⊢
 first
  | (rw[e2];rfl)
  | (erw [e2];rfl)
theorem gc{env:Env}:∀{ns:List (Str×NameKind)} {acc:List (Str×Addr)} {x:Str} {c:Addr},(∀y∈ns,y.2=.free->∃c,env.cells.lookup y.1=some c) ->
  (∀y c,acc.lookup y=some c->env.cells.lookup y=some c)->(eM env ns acc).lookup x=some c->env.cells.lookup x=some c
 | [],_,_,_,_,ha,e=>ha _ _ e
 | (n,k)::r,acc,x,c,h,ha,e=>by
  have hr:∀y∈r,y.2=.free->∃c,env.cells.lookup y.1=some c:=λy hy=>h y (Jh _ hy);unfold eM at e
  by_cases hk:k=.free
  ·subst hk
   rw[if_pos (by simp)]at e;obtain⟨c',hc⟩:=h (n,.free) List.mem_cons_self rfl;have hc':env.cells.lookup n=some c':=hc;refine gc hr (λy d z=>?_) e;rw[hc',Option.getD_some,List.lookup_cons]at z
   by_cases q:y=n
   ·subst q
    simp at z;subst z;exact hc'
   ·have q':(y==n)=false:=by simpa using q
    rw[q']at z;exact ha y d z
  ·rw[if_neg (by simpa using hk)]at e
   exact gc hr ha e
theorem mW{env:Env}:∀{ns:List (Str×NameKind)} {acc:List (Str×Addr)} {x:Str},((∃c,acc.lookup x=some c)\/(x,NameKind.free)∈ns)->∃c,(eM env ns acc).lookup x=some c
 | [],_,_,h=>by
  rcases h with h | h
  ·exact h
  ·exact nomatch h
 | (n,k)::r,acc,x,h=>by
  unfold eM
  by_cases hk:k=.free
  ·subst hk
   rw[if_pos (by simp)];refine mW ?_
   by_cases q:x=n
   ·subst q
    left
    simp[List.lookup_cons]
   ·have q':(x==n)=false:=by simpa using q
    rcases h with⟨c,h⟩ | h
    ·exact .inl ⟨c,by rw[List.lookup_cons,q'];exact h⟩
    ·rcases Jg.mp h with z | z
     ·cases z
      exact absurd rfl q
     ·exact .inr z
  ·rw[if_neg (by simpa using hk)]
   refine mW ?_;rcases h with h | h
   ·exact .inl h
   ·rcases Jg.mp h with z | z
    ·cases z
     exact absurd rfl hk
    ·exact .inr z
noncomputable def ug(scope osc:Scope):Scope:=
 {scope with names:=scope.names.map fun(n,k)=>if(k==.free&&osc.kind==.function&&osc.names.lookup n==some .cell) then(n,.cell) else(n,k)}
noncomputable def zm(scope osc:Scope):Bool:=
 (scope.kind==.function)&&(osc.kind==.function)&&scope.names.all fun(n,k)=>(k != .free || !scope.names.contains (n,NameKind.cell))&&(k != .local||scope.names.lookup n==some .local) &&
  (k != .free||osc.names.lookup n==some .cell||osc.names.lookup n==some .free)&&(k != .free||(ug scope osc).names.lookup n != some .local)
structure bu(scope osc:Scope):Prop where
 kind:scope.kind=.function
 sep:∀x∈scope.names,x.2=.free->(x.1,NameKind.cell)∉scope.names
 loc:∀x∈scope.names,x.2=.local->scope.names.lookup x.1=some .local
 free:∀x∈scope.names,x.2=.free->osc.names.lookup x.1=some .cell\/osc.names.lookup x.1=some .free
 nl:∀x∈scope.names,x.2=.free->(ug scope osc).names.lookup x.1≠some .local
theorem bu.of{scope osc:Scope}(h:zm scope osc=true):bu scope osc:=by
 unfold zm at h;rw[Bool.and_eq_true,Bool.and_eq_true,JH]at h;obtain⟨⟨h1,h0⟩,h2⟩:=h;refine⟨by simpa using h1,λx hx e=>?_,λx hx e=>?_,λx hx e=>?_,λx hx e=>?_⟩
 all_goals
  obtain⟨n,k⟩:=x;have q:=h2 (n,k) hx;simp only[Bool.and_eq_true,Bool.or_eq_true,bne_iff_ne,beq_iff_eq]at q
 ·have z:=q.1.1.1.resolve_left (λz=>z e)
  simpa using z
 ·exact q.1.1.2.resolve_left (λz=>z e)
 ·rcases q.1.2 with(z | z) | z
  ·exact absurd e z
  ·exact .inl z
  ·exact .inr z
 ·exact q.2.resolve_left (λz=>z e)
theorem fe{osc:Scope}:∀{ns:List (Str×NameKind)} {x:Str} {k':NameKind},
  (ns.map fun(n,k)=>if(k==NameKind.free&&osc.kind==.function&&osc.names.lookup n==some .cell) then(n,NameKind.cell) else(n,k)).lookup x=some k' ->
  (k'=.cell\/k'=.free)->(x,NameKind.free)∈ns\/(x,NameKind.cell)∈ns
 | [],_,_,h,_=>by simp at h
 | (n,k)::r,x,k',h,hk'=>by
  rw[Ju]at h
  by_cases q:x=n
  ·subst q
   by_cases z:(k==NameKind.free&&osc.kind==.function&&osc.names.lookup x==some .cell)=true
   ·have:k=.free:=by
     simp only[Bool.and_eq_true,beq_iff_eq]at z;exact z.1.1
    subst this;exact .inl List.mem_cons_self
   ·simp only[z,Bool.false_eq_true,if_false]at h
    rw[List.lookup_cons]at h;simp at h;subst h;rcases hk' with e | e
    ·subst e;exact .inr List.mem_cons_self
    ·subst e;exact .inl List.mem_cons_self
  ·have q':(x==n)=false:=by simpa using q
   refine(fe (osc:=osc) (k':=k') (ns:=r) (x:=x) ?_ hk').imp (Jh _) (Jh _)
   by_cases z:(k==NameKind.free&&osc.kind==.function&&osc.names.lookup n==some .cell)=true
   ·simp only[z,if_true]at h
    rw[List.lookup_cons,q']at h;exact h
   ·simp only[z,Bool.false_eq_true,if_false]at h
    rw[List.lookup_cons,q']at h;exact h
theorem iy:∀(ns:List (Str×NameKind)) (n:Nat) (acc:List (Str×Addr)),cellsFrom n ns acc=cellsFrom n ns []++acc
 | [],_,_=>rfl
 | (x,k)::r,n,acc=>by
  unfold cellsFrom
  split
  ·rw[iy r (n+1) ((x,n)::acc),iy r (n+1) [(x,n)],List.append_assoc];rfl
  ·exact iy r n acc
theorem sQ:∀{ns:List (Str×NameKind)} {n:Nat} {x:Str} {c:Addr},(x,c)∈cellsFrom n ns []->(x,NameKind.cell)∈ns
 | [],_,_,_,h=>nomatch h
 | (y,k)::r,n,x,c,h=>by
  unfold cellsFrom at h
  split at h
  ·rename_i hk
   rw[iy]at h;rcases Je.mp h with h | h
   ·exact Jh _ (sQ h)
   ·cases IU.mp h
    have:k=.cell:=by simpa using hk
    subst this;exact List.mem_cons_self
  ·exact Jh _ (sQ h)
theorem rj:∀{ns:List (Str×NameKind)} {n:Nat} {x:Str} {acc:List (Str×Addr)},((x,NameKind.cell)∈ns\/∃c,acc.lookup x=some c)->∃c,(cellsFrom n ns acc).lookup x=some c
 | [],_,_,_,h=>h.elim (λz=>nomatch z) id
 | (y,k)::r,n,x,acc,h=>by
  unfold cellsFrom
  split
  ·refine rj ?_
   by_cases q:x=y
   ·subst q
    exact .inr ⟨n,by simp[List.lookup_cons]⟩
   ·have q':(x==y)=false:=by simpa using q
    rcases h with h | ⟨c,h⟩
    ·rcases Jg.mp h with z | z
     ·cases z;exact absurd rfl q
     ·exact .inl z
    ·exact .inr ⟨c,by rw[List.lookup_cons,q'];exact h⟩
  ·rename_i hk
   refine rj ?_;rcases h with h | h
   ·rcases Jg.mp h with z | z
    ·cases z;exact absurd rfl hk
    ·exact .inl z
   ·exact .inr h
noncomputable def dC(env:Env)(scope:Scope)(C:Addr):List (Str×Addr):=cellsFrom (C+1) scope.names (eM env scope.names [])
theorem j':∀{ns:List (Str×NameKind)} {n:Nat} {x:Str} {c:Addr},(x,c)∈cellsFrom n ns []->n<=c
 | [],_,_,_,h=>nomatch h
 | (y,k)::r,n,x,c,h=>by
  unfold cellsFrom at h
  split at h
  ·rw[iy]at h
   rcases Je.mp h with h | h
   ·exact Jw (Nat.le_succ _) (j' h)
   ·cases IU.mp h
    exact Jo _
  ·exact j' h
theorem oG:∀{ns:List (Str×NameKind)} {n:Nat},(cellsFrom n ns []).Pairwise λx y=>x.2≠y.2
 | [],_=>List.Pairwise.nil
 | (y,k)::r,n=>by
  unfold cellsFrom
  split
  ·rw[iy]
   refine List.pairwise_append.mpr ⟨oG,by simp,λa ha b hb e=>?_⟩;cases IU.mp hb;have:=j' (x:=a.1) (c:=a.2) ha;rw[e]at this;exact absurd this (Nat.not_succ_le_self _)
  ·exact oG
theorem gS{env:Env}{scope:Scope}{C:Addr}{x:Str}{c:Addr}(h:(dC env scope C).lookup x=some c) :
  ((x,c)∈cellsFrom (C+1) scope.names []/\C<c/\(x,NameKind.cell)∈scope.names)\/((cellsFrom (C+1) scope.names []).lookup x=none/\(eM env scope.names []).lookup x=some c):=by
 unfold dC at h;rw[iy,List.lookup_append]at h;cases q:(cellsFrom (C+1) scope.names []).lookup x with
 |none=>rw[q]at h;exact .inr ⟨rfl,h⟩
 |some d=>
  rw[q]at h;cases h;have:=mem_of_lookup q;exact .inl ⟨this,j' this,sQ this⟩
theorem AC{ns:List (Str×NameKind)}{n:Nat}{x:Str}(h:(x,NameKind.cell)∉ns):(cellsFrom n ns []).lookup x=none:=by
 cases q:(cellsFrom n ns []).lookup x with
 |none=>rfl
 |some d=>exact absurd (sQ (mem_of_lookup q)) h
section
variable {M:Model}{A:J8}{E:JS}{s:JW}
theorem eV{scope:Scope}{globals:Addr}{closure:List (Str×Addr)}{qual:Str}{func:Ka}{code:Value}{outer:Env}{builtins:Addr}{Q:Env->Shared->Prop}
  (hQ:Q (newEnv scope s.heap.objs.size globals (cellsFrom (s.heap.objs.size+1) scope.names closure) qual func code (some outer) builtins) {s with heap:=pushCells (s.heap.push {cls:=.type "dict",data:=.dict #[]}) scope.names}) :
  wpAny M A (newFunctionEnv scope globals closure [] qual func code (some outer) builtins) Q E s:=by
 simp only[newFunctionEnv,Option.isSome_some,if_true];simp only[newEnv]at hQ;refine wpAny_bind (wpAny_alloc ?_);refine wpAny_bind (wpAny_layCells _ (λname kind cells=>by cases hkc:kind==NameKind.cell<;>simp[hkc]) _ _ _ _ ?_);rw[show({s with heap:=s.heap.push {cls:=.type "dict",data:=.dict #[]} }:Shared).heap.objs.size=s.heap.objs.size+1 from Heap.size_push ..];rw[List.forIn_nil];exact wpAny_bind (wpAny_pure (wpAny_pure hQ))
end
noncomputable def Cx.blk(X:Cx)(N':J4)(s₂:JW)(H₂:Hp)(scope:Scope)(fp:JY)(C:Addr):Cx where
 prog:=X.prog
 w:=X.w
 K:=X.K
 mg:=X.mg
 base:=X.base
 A:=X.A
 N:=N'
 s₀:=s₂
 H₀:=H₂
 env:=compEnvC scope (dC X.env scope C) C X.env
 outer:=X.stack
 stack:=X.stack
 ex:=fp
 fn:=λx=>scope.names.contains (x,NameKind.cell)
 calm:=X.calm
 pn:=[]
 xe:=λ_ _=>False
noncomputable def qI(k:Nat)(js:JV)(σ:St):St:=List.replicate k none++js.map λj=>(σ[j]?).join
noncomputable def m3(own:J4)(js:JV)(N:J4):List Str:=own++js.map λj=>N.getD j Str.empty
section
variable {X:Cx}
theorem Inv.capFree{pins:JU}{σ:St}{H:Hp}{s:JW}{scope:Scope}(I:Inv X pins σ H s)(hk:bu scope X.env.scope):∀x∈scope.names,x.2=.free->∃c,X.env.cells.lookup x.1=some c:=
 λx hx e=>I.ok.has x.1 (hk.free x hx e)
theorem Inv.capL{pins:JU}{σ:St}{H:Hp}{s:JW}{scope:Scope}{x:Str}{c:Addr}(I:Inv X pins σ H s)(hk:bu scope X.env.scope)(e:(eM X.env scope.names []).lookup x=some c):X.env.cells.lookup x=some c:=
 gc (I.capFree hk) (λ_ _ z=>by simp at z) e
theorem Inv.blkL{pins:JU}{σ:St}{H:Hp}{s:JW}{scope:Scope}{C:Addr}{x:Str}{c:Addr}(I:Inv X pins σ H s)(hk:bu scope X.env.scope)(e:(dC X.env scope C).lookup x=some c) :
  ((x,c)∈cellsFrom (C+1) scope.names []/\C<c/\(x,NameKind.cell)∈scope.names)\/X.env.cells.lookup x=some c:=
 (gS e).imp id λz=>I.capL hk z.2
theorem Di{pins:JU}{σ:St}{H:Hp}{s:JW}{N':J4}{scope:Scope}{fp:JY}{C:Addr}(I:Inv X pins σ H s)(hk:bu scope X.env.scope)(hC:s.heap.objs.size<=C)
  (hf:∀b∈fp,mx X pins H b) (ho:∀b∈fp,∃o,s.heap.get? b=some o):(X.blk N' s H scope fp C).Ok where
 mod:=I.ok.mod
 kind:=hk.kind
 glob:=I.ok.glob
 blt:=I.ok.blt
 above:=hC
 inj:=λx y c e1 e2=>by
  have low:∀z,X.env.cells.lookup z=some c->c<C:=λz e=>by
   obtain⟨v,q⟩:=I.cell z c e;exact Jj q.lt hC
  rcases I.blkL hk e1 with⟨a1,a2,_⟩ | a<;>rcases I.blkL hk e2 with⟨b1,b2,_⟩ | b
  ·exact name_of_addr oG a1 b1
  ·exact absurd (low _ b) (Nat.not_lt.mpr (Nat.le_of_lt a2))
  ·exact absurd (low _ a) (Nat.not_lt.mpr (Nat.le_of_lt b2))
  ·exact I.ok.inj x y c a b
 has:=λx h=>by
  refine rj ?_;have z:(x,NameKind.free)∈scope.names\/(x,NameKind.cell)∈scope.names:=by
   rcases h with h | h
   ·exact fe (osc:=X.env.scope) h (.inl rfl)
   ·exact fe (osc:=X.env.scope) h (.inr rfl)
  rcases z with z | z
  ·exact .inr (mW (.inr z))
  ·exact .inl z
 cab:=λx c z e=>by
  have z':(x,NameKind.cell)∈scope.names:=by
   have z2:scope.names.contains (x,NameKind.cell)=true:=z
   simpa using z2
  have e':(dC X.env scope C).lookup x=some c:=e;rcases gS e' with⟨_,a,_⟩ | ⟨a,_⟩
  ·exact Jw hC (Nat.le_of_lt a)
  ·obtain⟨d,q⟩:=rj (n:=C+1) (acc:=[]) (.inl z')
   rw[a]at q;cases q
 hd:=I.ok.hd
 frames:=I.ok.frames
 stk:=.inl rfl
 exf:=λb hb=>⟨λe=>by
  obtain⟨o,q⟩:=ho b hb;have e':b=C:=e;rw[e']at q;exact absurd (Jr q) (Nat.not_lt.mpr hC),λx c e=>by
  rcases I.blkL hk e with⟨_,a,_⟩ | a
  ·obtain⟨o,q⟩:=ho b hb
   intro z;rw[z]at a;exact absurd (Jj (Jr q) hC) (Nat.not_lt.mpr (Nat.le_of_lt a))
  ·exact(hf b hb).2.2.2.2.1 x c a⟩
 bs:=I.bs
 bsz:=Jw I.ok.bsz I.sz
 noex:=λb o e hb=>by
  rcases(hf b hb).2.2.2.1 with z | z
  ·exact I.ok.noex b o e z
  ·exact absurd (Jr (I.ok.bs b o e).1) (Nat.not_lt.mpr z)
 exfs:=λb hb hs=>by
  rcases Jg.mp (I.stkSub b hs) with z | z
  ·exact(hf b hb).2.1 z
  ·exact(hf b hb).2.2.1 z
 funs:=I.stack
 frf:=I.stkFree
theorem yE{pins:JU}{σ:St}{H:Hp}{s s1:JW}{own:J4}{js:JV}{scope:Scope}{fp:JY}{C:Addr}{m:JZ}(I:Inv X pins σ H s)(hk:bu scope X.env.scope)(hC:s.heap.objs.size<=C)
  (hf:∀b∈fp,mx X pins H b) (ho:∀b∈fp,∃o,s.heap.get? b=some o) (hos:s1.os=s.os) (hg:s1.gens=s.gens) (hn:s1.heap.Ns C m) (keep:∀b o,s.heap.get? b=some o->s1.heap.get? b=some o)
  (hown:∀x c,(x,c)∈cellsFrom (C+1) scope.names []->s1.heap.IsCell c none) (hcap:(js.all λj=>scope.names.contains (X.N.getD j Str.empty,NameKind.free))=true) :
  Inv (X.blk (m3 own js X.N) s H scope fp C) [] (qI own.length js σ) H s1:=by
 have cl:=fun{x:Str} {c:Addr} (e:(eM X.env scope.names []).lookup x=some c)=>gc (I.capFree hk) (λ_ _ z=>by simp at z) e;refine⟨Di I hk hC hf ho,hos,hg▸I.bare,Un.kept keep,⟨m,hn,λi x v e1 e2 e3=>?_⟩,λx c e=>?_,I.hok.fresh hC,λx c e=>(I.blkL hk e).elim (λz=>I.hok.fresh (Jw hC (Nat.le_of_lt z.2.1))) λz=>I.freeC x c z,λp hp=>(nomatch hp),I.hok.kept keep,?_⟩
 ·have e1':(own++js.map λj=>X.N.getD j Str.empty)[i]?=some x:=e1
  have e2':(List.replicate own.length none++js.map λj=>(σ[j]?).join)[i]?=some (some v):=e2
  by_cases hi:i<own.length
  ·rw[Jm (by rw[List.length_replicate];exact hi),List.getElem?_replicate,if_pos hi]at e2'
   cases e2'
  ·have hi':own.length<=i:=Nat.le_of_not_lt hi
   rw[Jl (by rw[List.length_replicate];exact hi'),List.length_replicate,IV]at e2';rw[Jl hi',IV]at e1';cases ej:js[i-own.length]? with
   |none=>rw[ej]at e1';cases e1'
   |some j=>
    rw[ej]at e1' e2';have ex:X.N.getD j Str.empty=x:=Option.some.inj e1';have ev:(σ[j]?).join=some v:=Option.some.inj e2';have hj:σ[j]?=some (some v):=by
     cases q:σ[j]? with
     |none=>rw[q]at ev;cases ev
     |some z=>rw[q]at ev;simp at ev;rw[ev]
    have hjl:j<X.N.length:=by rw[<- I.len];exact(IR.mp hj).1
    have hN:X.N[j]?=some x:=by rw[<- ex,List.getD_eq_getElem?_getD,IQ hjl];rfl
    have hx:(x,NameKind.free)∈scope.names:=by
     have q:=JH.mp hcap j (IW ej);rw[ex]at q
     simpa using q
    have ko:=hk.free _ hx rfl;obtain⟨mo,hno,hl⟩:=I.loc;obtain⟨u,ru,lk⟩:=hl j x v hN hj (ko.elim (λz=>.inr (.inl z)) λz=>.inr (.inr z));refine⟨u,ru,?_⟩;rcases lk with⟨kk,_⟩ | ⟨kk,c,ec,hc⟩
    ·rcases ko with z | z
     ·rw[show X.env.kindOf x=X.env.scope.names.lookup x from rfl,z]at kk;cases kk
     ·rw[show X.env.kindOf x=X.env.scope.names.lookup x from rfl,z]at kk;cases kk
    ·obtain⟨c',hc'⟩:=mW (env:=X.env) (ns:=scope.names) (acc:=[]) (x:=x) (.inr hx)
     have:=cl hc';rw[ec]at this;cases this;refine .inr ⟨?_,c,?_,hc.keeps keep⟩
     case refine_2=>
      show(dC X.env scope C).lookup x=some c;unfold dC;rw[iy,List.lookup_append,AC (hk.sep _ hx rfl)];exact hc'
     -- its kind within the block
     rcases e3 with z | z | z
     ·exact absurd z (hk.nl _ hx rfl)
     ·exact .inl z
     ·exact .inr z
 ·rcases I.blkL hk e with z | z
  ·exact⟨none,hown x c z.1⟩
  ·obtain⟨v,z⟩:=I.cell x c z
   exact⟨v,z.keeps keep⟩
 ·show(List.replicate own.length none++js.map λj=>(σ[j]?).join).length=(own++js.map λj=>X.N.getD j Str.empty).length
  simp
noncomputable def Dd(env:Env)(ifs:Kb):Sem Bool:=forIn ifs true λc r=>if r=true then do let ok <- isTrue c env (eval c env);pure (ForInStep.yield ok) else pure (ForInStep.yield r)
theorem rV{prog:J3}{w:J9}{A:J8}{R:Result->Shared->Prop}{s:JW}{elt target iter:Expr}{ifs:Kb}{scope:Scope}{pos:Pos}{it acc:Value}{env:Env}(I:Nat->Shared->Prop)
  (turn:∀n s,I n s->wpAny (model prog w) A (pyNext it) (λr s₁=>match r with
   |none=>R (.ok .next) s₁
   |some v=>wpAny (model prog w) A (letOwnedTupleGo target it v) (λ_ s₁'=>wpAny (model prog w) A (assign target env v) (λ_ s₂=>
     wpAny (model prog w) A (Dd env ifs) (λok s₃=>
      if ok=true then wpAny (model prog w) A (eval elt env) (λx s₄=>
       wpAny (model prog w) A (call (.builtin "list.append") [acc,x]) (λ_ s₅=>∃m,m<n/\I m s₅) (λ_ _=>False) s₄) (λ_ _=>False) s₃
      else ∃m,m<n/\I m s₃) (λ_ _=>False) s₂) (λ_ _=>False) s₁') (λ_ _=>False) s₁) (λ_ _=>False) s)
  (n:Nat) (h:I n s) :
  codeAny (model prog w) A (.compLoop (.ListComp elt [⟨target,iter,ifs,0⟩] scope pos) 0 it acc env) R s:=by
 refine codeAny_loop rfl I (λn s hI=>?_) n h;show wpAny _ A ((compTurn (.ListComp elt [⟨target,iter,ifs,0⟩] scope pos) 0 it acc env).onRaise (λx=>do noteFrame x env;theTreesLotGoes x)) _ _ s;refine wpAny_noted ?_;rw[compTurn_list];have up:∀{α:Type} {t:Sem α} {Q Q':α->Shared->Prop} {E':JS} {s:JW},wpAny (model prog w) A t Q (λ_ _=>False) s->(∀a s,Q a s->Q' a s)->wpAny (model prog w) A t Q' E' s:=
  λh hQ=>wpAny_mono h hQ λ_ _ f=>f.elim
 refine wpAny_bind (wpAny_standAt (wpAny_bind (up (turn n s hI) λr s₁ h₁=>?_)));cases r with
 |none=>exact wpAny_pure h₁
 |some v=>
  refine wpAny_bind (up h₁ λ_ s₁' h₁'=>wpAny_bind (up h₁' λ_ s₂ h₂=>wpAny_bind (up h₂ λok s₃ h₃=>?_)));cases ok with
  |false=>exact wpAny_pure ⟨rfl,h₃⟩
  |true=>
   exact wpAny_bind (wpAny_bind (up h₃ λx s₄ h₄=>wpAny_bind (up h₄ λ_ s₅ h₅=>wpAny_pure (wpAny_pure ⟨rfl,h₅⟩))))
def ER(X:Cx)(ifs:Kb)(t:TT):Prop:=
 ∀(pins:JU) (s:JW) (σ:St) (H:Hp) (Q:Bool->Hp->Prop),Inv X pins σ H s->t σ H Q->wpAny (model X.prog X.w) X.A (Dd X.env ifs) (TP X pins σ Q) X.xe s
noncomputable def ul:TT:=λ_ H Q=>Q true H
theorem bF{X:Cx}:ER X [] ul:=λpins s σ H Q I h=>wpAny_tests_nil ⟨H,I,h⟩
def f_(J:It)(g:TG)(ti:TT)(te:TE)(σ:St)(H:Hp)(Q:List V->Hp->Prop):Prop:=
 ∃W:Nat->Nat->List V->St->Hp->Prop,(∃m,W 0 m [] σ H)/\∀i m acc σ' H',W i m acc σ' H' ->
  acc.length<sizeLine/\((J.stop i H'/\Q acc H') \/
   (J.go i H'/\∃N:List V->St->Hp->Prop,(∀acc' σ2 H2,N acc' σ2 H2->∃m',m'<m/\W (i+1) m' acc' σ2 H2) /\
    ∀x H2,J.yld i H' x H2->g x σ' H2 λσ2 H3=>ti σ2 H3 λb H4=>if b=true then te σ2 H4 λv H5=>N (acc++[v]) σ2 H5 else N acc σ2 H4))
noncomputable def wR(k:Nat)(js:JV)(wi:TI)(g:TG)(ti:TT)(te:TE):TE:=λσ H Q=>wi σ H λJ H1=>f_ J g ti te (qI k js σ) H1 λacc H'=>∀l,H' l=none->Q (.ref l) (aC H' l (.lst acc))
noncomputable abbrev fH(its:JX)(n:Nat):Obj:={cls:=.type "list",data:=.seq its.toArray n}
theorem qB{pins:JU}{σ:St}{H:Hp}{s:JW}{elt tg iter:Expr}{ifs:Kb}{scope:Scope}{pos:Pos}{own:J4}{js:JV}{g:TG}{ti:TT}{te:TE}{J:It}{fp:JY}{it:Addr}{tn:Nat->Heap->Prop}{Q:List V->Hp->Prop}{E:JS}
  {RR:Value->Addr->Result->Shared->Prop} (hc:X.calm=true) (hk:bu scope X.env.scope) (hcap:(js.all λj=>scope.names.contains (X.N.getD j Str.empty,NameKind.free))=true)
  (hg:∀s H fp C,PG (X.blk (m3 own js X.N) s H scope fp C) tg g) (hi:∀s H fp C,ER (X.blk (m3 own js X.N) s H scope fp C) ifs ti) (he:∀s H fp C,PE (X.blk (m3 own js X.N) s H scope fp C) elt te)
  (I:Inv X pins σ H s) (T:nI X.prog X.w X.K tg J fp it tn) (st:tn 0 s.heap) (hf:∀b∈fp,mx X pins H b)
  (hW:f_ J g ti te (qI own.length js σ) H Q)
  (hRR:∀(D C:Addr) (s':JW) (H':Hp) (acc:List V) (m:JZ),Q acc H'->H' D=none->Inv X pins σ (aC H' D (.lst acc)) s'->s'.heap.Ns C m->aC H' D (.lst acc) C=none->C≠X.env.locals->X.s₀.heap.objs.size<=C ->
   (∀x c,X.env.cells.lookup x=some c->c≠C)->(∀p∈X.pn++pins,p.1≠C)->RR (.ref D) C (.ok .next) s') :
  wpAny (model X.prog X.w) X.A (newList []) (λacc s₃=>wpAny (model X.prog X.w) X.A (newFunctionEnv scope X.env.globals (eM X.env scope.names []) [] X.env.qual none .none (some X.env)) (λcenv s₄=>
   codeAny (model X.prog X.w) X.A (.compStart (.ListComp elt [⟨tg,iter,ifs,0⟩] scope pos) 0 (.ref it) acc {cenv with scope:=relabel scope X.env}) (RR acc cenv.locals) s₄) E s₃) E s:=by
 obtain⟨W,⟨m0,w0⟩,turn⟩:=hW;refine wpAny_newObj_type (eV ?_);dsimp only;generalize hH2:s.heap.push {cls:=.type "list",dict:=none,data:=.seq ([]:List Value).toArray}=H2;generalize hh1:pushCells (H2.push {cls:=.type "dict",data:=.dict #[]}) scope.names=h₁;have hpk:∀b o,(H2.push {cls:=.type "dict",data:=.dict #[]}).get? b=some o->h₁.get? b=some o:=λb o e=>hh1▸pushCells_keeps _ _ b o e;have hns₁:h₁.Ns H2.objs.size λ_=>none:=by
  have q:(H2.push {cls:=.type "dict",data:=.dict #[]}).Ns H2.objs.size λ_=>none:=Heap.Ns.new ..;exact q.at' λo e=>hpk _ o e
 have hown₁:∀x c,(x,c)∈cellsFrom (H2.objs.size+1) scope.names []->h₁.IsCell c none:=λx c e=>by
  have ok:=cellsFrom_ok scope.names (H2.push {cls:=.type "dict",data:=.dict #[]}) (H2.objs.size+1) [] ⟨λ_ _ hm=>(nomatch hm),List.Pairwise.nil⟩ (by rw[Heap.size_push];exact Jo _);rw[Heap.size_push,hh1]at ok;exact(ok.empty x c e).1
 have hC:H2.objs.size=s.heap.objs.size+1:=by rw[<- hH2,Heap.size_push]
 have hDC:s.heap.objs.size≠H2.objs.size:=by rw[hC];exact Jk (Jy _)
 have hCle:s.heap.objs.size<=H2.objs.size:=by rw[hC];exact Nat.le_succ _
 have below:∀b,b<s.heap.objs.size->b≠H2.objs.size/\b≠s.heap.objs.size:=λb hb=>⟨by rw[hC];exact Jk (Nat.lt_succ_of_lt hb),Jk hb⟩;have old:∀b o,s.heap.get? b=some o->h₁.get? b=some o:=λb o e=>hpk b o (IS _ (hH2▸IS _ e));have hacc:h₁.get? s.heap.objs.size=some (fH [] 0):=hpk _ _ (IS _ (hH2▸IY _ rfl));have hob:∀b∈fp,∃o,s.heap.get? b=some o:=λb hb=>let ⟨o,e,_⟩:=T.obj 0 _ st b hb;⟨o,e⟩
 have st₁:tn 0 h₁:=T.keep 0 _ _ st λb _ o e=>old b o e;generalize hXb:X.blk (m3 own js X.N) s H scope fp H2.objs.size=Xb;have I₁:Inv Xb [] (qI own.length js σ) H {s with heap:=h₁}:=hXb▸yE I hk hCle hf hob rfl rfl hns₁ old hown₁ hcap;have eP:Xb.prog=X.prog:=by rw[<- hXb];rfl
 have ew:Xb.w=X.w:=by rw[<- hXb];rfl
 have eK:Xb.K=X.K:=by rw[<- hXb];rfl
 have eA:Xb.A=X.A:=by rw[<- hXb];rfl
 have ec:Xb.calm=true:=by rw[<- hXb];exact hc
 have eE:Xb.env=compEnvC scope (dC X.env scope H2.objs.size) H2.objs.size X.env:=by rw[<- hXb];rfl
 have ex:Xb.xe=λ_ _=>False:=by rw[<- hXb];rfl
 have es:Xb.s₀=s:=by rw[<- hXb];rfl
 have eh:Xb.H₀=H:=by rw[<- hXb];rfl
 have ef:Xb.fs=gj X.stack:=by rw[<- hXb];rfl
 have exx:Xb.ex=fp:=by rw[<- hXb];rfl
 have ep:Xb.pn=[]:=by rw[<- hXb];rfl
 have eL:Xb.env.locals=H2.objs.size:=by rw[eE];rfl
 have hD0:H s.heap.objs.size=none:=I.hok.fresh (Jo _)
 -- D is no iterator's,no frame's
 have hDf:∀b∈fp,b≠s.heap.objs.size:=λb hb e=>by
  obtain⟨o,q⟩:=hob b hb;rw[e]at q;exact absurd (Jr q) (Jx _)
 have hDs:s.heap.objs.size∉Xb.fs:=λz=>by
  rw[ef]at z;rcases Jg.mp (I.stkSub _ z) with q | q
  ·exact absurd I.lt (by rw[<- q];exact Jx _)
  ·exact I.nofs (Jo _) q
 have hDcell:∀x c,Xb.env.cells.lookup x=some c->c≠s.heap.objs.size:=λx c e q=>by
  rcases I.blkL hk (C:=H2.objs.size) (x:=x) (c:=c) (by rw[eE]at e;exact e) with⟨_,z,_⟩ | z
  ·rw[q]at z
   exact absurd hCle (Nat.not_le.mpr z)
  ·obtain⟨v,o,ho,_⟩:=I.cell x c z
   rw[q]at ho;exact absurd (Jr ho) (Jx _)
 have stat:∀{pl:JU} {H':Hp},(∀b∈fp,H' b=none)->(∀p∈pl,p.1=s.heap.objs.size)->∀b∈fp,mx Xb pl H' b:=λhn hp b hb=>by
  refine⟨hn b hb,?_,?_,.inl (by rw[exx];exact hb),λx c e=>?_,λp hpp=>?_⟩
  ·rw[eL];exact(below b (let ⟨o,q⟩:=hob b hb;Jr q)).1
  ·rw[ef];intro z
   rcases Jg.mp (I.stkSub b z) with q | q
   ·exact(hf b hb).2.1 q
   ·exact(hf b hb).2.2.1 q
  ·rcases I.blkL hk (C:=H2.objs.size) (x:=x) (c:=c) (by rw[eE]at e;exact e) with⟨_,z,_⟩ | z
   ·intro q
    rw[q]at z;obtain⟨o,q2⟩:=hob b hb;exact absurd (Jj (Jr q2) hCle) (Nat.not_lt.mpr (Nat.le_of_lt z))
   ·exact(hf b hb).2.2.2.2.1 x c z
  ·rw[ep,JJ]at hpp
   rw[hp p hpp];exact(hDf b hb).symm
 have loop:∀s₃:Shared,s₃={s with heap:=h₁} ->
   codeAny (model X.prog X.w) X.A (.compLoop (.ListComp elt [⟨tg,iter,ifs,0⟩] scope pos) 0 (.ref it) (.ref s.heap.objs.size) (compEnvC scope (dC X.env scope H2.objs.size) H2.objs.size X.env))
    (RR (.ref s.heap.objs.size) H2.objs.size) s₃:=by
  rintro s₃ rfl;refine rV (λn s'=>∃(i:Nat) (acc:List V) (its:JX) (k:Nat) (σ':St) (H':Hp),Inv Xb [] σ' H' s'/\tn i s'.heap/\(∀b∈fp,H' b=none)/\H' s.heap.objs.size=none/\s'.heap.get? s.heap.objs.size=some (fH its k)/\aY acc its/\W i n acc σ' H')
   ?_ m0 ⟨0,[],[],0,_,H,I₁,st₁,λb hb=>(hf b hb).1,hD0,hacc,.nil,w0⟩
  rintro n s' ⟨i,acc,its,k,σ',H',I',st',fr',hD',oD',rv',w'⟩;obtain⟨hlen,tt⟩:=turn i n acc σ' H' w'
  -- the gathered list,pinned
  have Ip:Inv Xb [(s.heap.objs.size,fH its k)] σ' H' s':=I'.pins_of λp hp=>by
   have e:p=(s.heap.objs.size,fH its k):=by simpa using hp
   subst e;exact⟨oD',hD',by rw[eL];exact hDC,hDs,λv z=>by cases z⟩
  have hpl:∀p∈[(s.heap.objs.size,fH its k)],p.1=s.heap.objs.size:=λp hp=>by
   have e:p=(s.heap.objs.size,fH its k):=by simpa using hp
   rw[e]
  rcases tt with⟨stop,q⟩ | ⟨go,N,hN,step⟩
  ·have d:=T.done Xb eP ew eK ec i _ s' σ' H' (λ_ _=>False) Ip (stat fr' hpl) st' stop
   rw[eA]at d;refine wpAny_mono d (λr s1 hr=>?_) λ_ _ z=>z;obtain⟨rfl,I1⟩:=hr;have oD1:s1.heap.get? s.heap.objs.size=some (fH its k):=(I1.pin _ (List.mem_append_right _ (IU.mpr rfl))).1;obtain⟨mC,hnC,_⟩:=I1.loc;rw[eL]at hnC;obtain⟨oC,_,_,hoC,_⟩:=id hnC;have hCH:H' H2.objs.size=none:=by have:=I1.free;rwa [eL]at this
   have ub:Un (gj X.stack) fp H H' s.heap s1.heap:=by have:=I1.base;rwa [ef,exx,eh,es]at this
   refine hRR _ _ s1 H' acc mC q hD' ?_ hnC ?_ ?_ ?_ ?_ ?_
   ·-- FF outside
    refine I.call' (ch:=fp) (by have:=I1.os;rwa [es]at this) ⟨λb o e n1 h1 h2=>ub.keep b o e n1 h1 h2,λb o e n1 h1 h2=>ub.slot b o e n1 h1 h2,λb o e n1 h1=>?_,ub.there,λb xs e=>?_,λb o u e=>?_,λb ps e=>?_⟩ ?_ (by have:=I1.bare;exact this) λb hb=>?_
    ·rw[aj (λz=>by rw[z]at e;exact absurd (Jr e) (Jx _))]
     exact ub.free b o e n1 h1
    ·rw[aj (aJ (ub.tups b xs e) hD')]
     exact ub.tups b xs e
    ·rw[aj (aJ (ub.frzs b o u e) hD')]
     exact ub.frzs b o u e
    ·obtain⟨more,z⟩:=ub.tbls b ps e
     exact⟨more,by rw[aj (aJ z hD')];exact z⟩
    ·intro b u e
     have hokb:=I1.hok;rw[eP,ew]at hokb
     by_cases hb:b=s.heap.objs.size
     ·subst hb
      rw[ac]at e;cases e;exact⟨Nat.le_of_lt hlen,its,k,rv',oD1⟩
     ·rw[aj hb]at e
      refine(hokb b u e).stay (λc v _ z=>z) (λc z=>?_) λc xs z=>?_
      ·rw[aj (aJ z hD')];exact z
      ·rw[aj (aJ z hD')];exact z
    ·exact⟨(hf b hb).2.2.2.1,(hf b hb).2.1,(hf b hb).2.2.2.2.1,(hf b hb).2.2.2.2.2⟩
   ·rw[aj hDC.symm];exact hCH
   ·intro z;have:=I.lt;rw[<- z]at this;exact absurd this (Nat.not_lt.mpr hCle)
   ·exact Jw I.sz hCle
   ·intro x c e z
    obtain⟨v,o,ho,_⟩:=I.cell x c e;rw[z]at ho;exact absurd (Jr ho) (Nat.not_lt.mpr hCle)
   ·intro p hp z
    have:=(I.pin p hp).1;rw[z]at this;exact absurd (Jr this) (Nat.not_lt.mpr hCle)
  ·have d:=T.item Xb eP ew eK ec i _ s' σ' H' (λ_ _=>False) Ip (stat fr' hpl) st' go
   rw[eA]at d;refine wpAny_mono d (λr s1 hr=>?_) λ_ _ z=>z;obtain⟨u,rfl,d2⟩:=hr;refine wpAny_mono d2 (λ_ s2 hr2=>?_) λ_ _ z=>z;obtain⟨x,H2',I2,r2,y2,st2,fr2⟩:=hr2;have I2':=I2.pinned (stat fr2 hpl) (T.obj _ _ st2);have G:=hXb▸hg s H fp H2.objs.size;have d3:=G _ s2 σ' H2' x u _ I2' r2 (step x H2' y2);rw[eP,ew,eA,ex,eE]at d3;refine wpAny_mono d3 (λ_ s3 hr3=>?_) λ_ _ z=>z;obtain⟨σ3,H3,I3,q3⟩:=hr3;have Gi:=hXb▸hi s H fp H2.objs.size;have d4:=Gi _ s3 σ3 H3 _ I3 q3;rw[eP,ew,eA,ex,eE]at d4;refine wpAny_mono d4 (λb s4 hr4=>?_) λ_ _ z=>z;obtain⟨H4,I4,q4⟩:=hr4;have again:∀{s5:JW} {H5:Hp} {σ5:St},Inv Xb ([(s.heap.objs.size,fH its k)]++oH fp s2.heap) σ5 H5 s5->s5.heap.get? s.heap.objs.size=some (fH its k)/\H5 s.heap.objs.size=none/\tn (i+1) s5.heap/\∀b∈fp,H5 b=none:=fun{s5 H5 σ5} I5=>by
    have pD:=I5.pin (s.heap.objs.size,fH its k) (List.mem_append_right _ (List.mem_append_left _ (IU.mpr rfl)));refine⟨pD.1,pD.2.1,T.keep _ _ _ st2 λb hb o e=>(I5.pin (b,o) (List.mem_append_right _ (List.mem_append_right _ (gx hb e)))).1,λb hb=>?_⟩;obtain⟨o,e,_⟩:=T.obj _ _ st2 b hb;exact(I5.pin (b,o) (List.mem_append_right _ (List.mem_append_right _ (gx hb e)))).2.1
   have bare:∀{s5:JW} {H5:Hp} {σ5:St} {pl:JU},Inv Xb pl σ5 H5 s5->Inv Xb [] σ5 H5 s5:=λI5=>I5.pins_of λp hp=>nomatch hp;cases b with
   |false=>
    obtain⟨m',hm,w5⟩:=hN _ _ _ q4;obtain⟨a1,a2,a3,a4⟩:=again I4;exact⟨m',hm,i+1,acc,its,k,σ3,H4,bare I4,a3,a4,a2,a1,rv',w5⟩
   |true=>
    have Ge:=hXb▸he s H fp H2.objs.size;have d5:=Ge _ s4 σ3 H4 _ I4 q4;rw[eP,ew,eA,ex,eE]at d5;refine wpAny_mono d5 (λy s5 hr5=>?_) λ_ _ z=>z;obtain⟨v,H5,I5,r5,q5⟩:=hr5;obtain⟨m',hm,w5⟩:=hN _ _ _ q5;obtain⟨a1,a2,a3,a4⟩:=again I5;have hl:=rv'.length;refine call_meets F.slot_list_append ⟨_,a1,rfl⟩ F.entry_list_append (F.args_list_append_2 _ _) (PySem.list_append s.heap.objs.size its.toArray k y (by rw[IZ];omega)) ⟨a1,?_⟩;have qu:=PySem.IsL.update a1 (λx_1=>x_1.push y);have qe:(its.toArray.push y)=(its++[y]).toArray:=by simp
    rw[qe]at qu;have I6:Inv Xb [] σ3 H5 {s5 with heap:=s5.heap.update s.heap.objs.size (Obj.mapSeq λx_1=>x_1.push y),toks:=s5.toks}:=
     (bare I5).turned (λb o hb e=>(IX s5.heap _ (Ne.symm hb)).trans e) a2 (by rw[eL];exact hDC) (.inr (by rw[es];exact Jo _)) hDcell (by rw[ep];intro p hp;exact nomatch hp)
    refine⟨m',hm,i+1,acc++[v],its++[y],_,σ3,H5,I6,T.keep _ _ _ a3 (λb hb o e=>(IX s5.heap _ (hDf b hb).symm).trans e),a4,a2,qu,rv'.append (.cons r5 .nil),w5⟩
 refine codeAny_compStart_list (loop _ rfl) ?_;exact T.self _ 0 _ _ _ st₁ (loop _ rfl)
theorem bO{elt tg iter:Expr}{ifs:Kb}{scope:Scope}{pos:Pos}(own:J4)(js:JV){wi:TI}{g:TG}{ti:TT}{te:TE}(hc:X.calm=true)(hk:bu scope X.env.scope)
  (hcap:(js.all λj=>scope.names.contains (X.N.getD j Str.empty,NameKind.free))=true) (hw:PI X tg iter wi)
  (hg:∀s H fp C,PG (X.blk (m3 own js X.N) s H scope fp C) tg g) (hi:∀s H fp C,ER (X.blk (m3 own js X.N) s H scope fp C) ifs ti) (he:∀s H fp C,PE (X.blk (m3 own js X.N) s H scope fp C) elt te)
  (hs:autoParam (∀x,foldedSetIterable iter X.env x=pure x) zz4._auto_1):PE X (.ListComp elt [⟨tg,iter,ifs,0⟩] scope pos) (wR own.length js wi g ti te):=by
 intro pins s σ H Q I h;rw[eval_ListComp];refine wpAny_comprehension_free (use:=none) rfl hs (ig (I.capFree hk)) hk.kind hk.loc (bM (hw pins s σ H _ I h) λv s1 h1=>bM h1 λitv s2 h2=>?_);obtain⟨it,fp,tn,J,H2,rfl,I2,T,st2,f2,hW⟩:=h2;refine qB (RR:=λacc C=>compPost (model X.prog X.w) X.A X.xe none (EP X pins σ Q) acc C) (Q:=λacc H'=>∀l,H' l=none->Q (.ref l) (aC H' l (.lst acc))) hc hk hcap hg hi he I2 T st2 f2 hW ?_;intro D C s' H' acc m q hD I' hn hC0 hCL hCs hCc hCp;refine⟨m,hn,λh' sb=>?_⟩;exact⟨.ref D,_,I'.turned (t':=s'.toks) (λb o hb e=>(sb.2 b hb).trans e) hC0 hCL (.inr hCs) hCc hCp,rfl,q D hD⟩
theorem nr{i:Nat}{x:Str}{elt tg iter:Expr}{ifs:Kb}{scope:Scope}{pos spos:Pos}{px:Pos}(own:J4)(js:JV){wi:TI}{g:TG}{ti:TT}{te:TE}(hN:X.N.Nodup)(hxi:X.N[i]?=some x)(hx:Loc X.env.scope x)
  (hsw:swapsWith (.ListComp elt [⟨tg,iter,ifs,0⟩] scope pos) (some (.Name x px)) spos.line X.env=pure true)
  (hc:X.calm=true) (hk:bu scope X.env.scope)
  (hcap:(js.all λj=>scope.names.contains (X.N.getD j Str.empty,NameKind.free))=true) (hw:PI X tg iter wi)
  (hg:∀s H fp C,PG (X.blk (m3 own js X.N) s H scope fp C) tg g) (hi:∀s H fp C,ER (X.blk (m3 own js X.N) s H scope fp C) ifs ti) (he:∀s H fp C,PE (X.blk (m3 own js X.N) s H scope fp C) elt te)
  (hs:autoParam (∀x,foldedSetIterable iter X.env x=pure x) zz4._auto_1) (hf:autoParam (X.fn x=true\/X.env.scope.names.lookup x=some .local) zz3._auto_1) :
  PS X (.Assign [.Name x px] (.ListComp elt [⟨tg,iter,ifs,0⟩] scope pos) spos) (v1 (wR own.length js wi g ti te) (gQ i)):=by
 intro pins s σ H Dn I h;rw[exec_Assign_Name_used _ _ _ _ hsw];refine wpAny_bind (wpAny_standAt (wpAny_bind ?_));show wpAny _ _ (do let _ <- comprehension (.ListComp elt [⟨tg,iter,ifs,0⟩] scope pos) scope X.env _ (newList []) false (eval iter X.env) (some (assign (.Name x px) X.env))) _ _ s;refine wpAny_bind (wpAny_mono (wpAny_comprehension_free (use:=some (assign (.Name x px) X.env)) (Q:=λ_ s'=>SP X pins Dn .next s') (E:=X.xe) rfl hs (ig (I.capFree hk)) hk.kind hk.loc ?_) (λ_ s' q=>wpAny_pure (wpAny_pure q)) λ_ _ z=>z);refine(bM (hw pins s σ H _ I h) λv s1 h1=>bM h1 λitv s2 h2=>?_);obtain⟨it,fp,tn,J,H2,rfl,I2,T,st2,f2,hW⟩:=h2;refine qB (RR:=λacc C=>compPost (model X.prog X.w) X.A X.xe (some (assign (.Name x px) X.env)) (λ_ s'=>SP X pins Dn .next s') acc C) (Q:=λacc H'=>∀l,H' l=none->gQ i (.ref l) σ (aC H' l (.lst acc)) Dn.nx) hc hk hcap hg hi he I2 T st2 f2 hW ?_;intro D C s' H' acc m q hD I' hn hC0 hCL hCs hCc hCp;show wpAny _ _ (assign (.Name x px) X.env (.ref D)) _ _ s';refine wpAny_assign_Name (qD I' hN hxi hx (v:=.ref D) rfl (λs'' I'' sb=>?_) hf);obtain⟨a,sb,ha⟩:=sb;have hCa:C≠a:=by
  rcases ha with z | z
  ·rw[z];exact hCL
  ·exact(hCc x a z).symm
 refine⟨m,hn.sameBut sb hCa,λh' sb'=>?_⟩;exact⟨_,_,I''.turned (t':=s''.toks) (λb o hb e=>(sb'.2 b hb).trans e) hC0 hCL (.inr hCs) hCc hCp,q D hD⟩
end
section
variable {K:JT}{g:TG}{ti:TT}{te:TE}{σ:St}{H:Hp}{Q:List V->Hp->Prop}
theorem iS{J:It}{n:Nat}(Pv:Nat->List V->St->Hp->Prop)(h0:Pv 0 [] σ H)(hz:∀i acc σ H,Pv i acc σ H->acc.length<sizeLine)(hi:∀i acc σ H,Pv i acc σ H->i<=n)
  (stop:∀acc σ H,Pv n acc σ H->J.stop n H) (go:∀i acc σ H,i<n->Pv i acc σ H->J.go i H)
  (hs:∀i x acc σ H H2,i<n->Pv i acc σ H->J.yld i H x H2->g x σ H2 λσ2 H3=>ti σ2 H3 λb H4=>if b=true then te σ2 H4 λv H5=>Pv (i+1) (acc++[v]) σ2 H5 else Pv (i+1) acc σ2 H4)
  (he:∀acc σ H,Pv n acc σ H->Q acc H) :
  f_ J g ti te σ H Q:=by
 refine⟨λi m acc σ H=>Pv i acc σ H/\m=n+1-i,⟨n+1,h0,rfl⟩,?_⟩;rintro i m acc σ' H' ⟨w,rfl⟩;refine⟨hz i acc σ' H' w,?_⟩;have hle:=hi i acc σ' H' w;rcases Nat.lt_or_ge i n with hlt | hge
 ·refine .inr ⟨go i acc σ' H' hlt w,λacc' σ2 H2=>Pv (i+1) acc' σ2 H2,λacc' σ2 H2 w2=>⟨n+1-(i+1),?_,w2,rfl⟩,λx H2 y=>hs i x acc σ' H' H2 hlt w y⟩
  have:=hi (i+1) acc' σ2 H2 w2;omega
 ·have e:i=n:=by omega
  subst e;exact .inl ⟨stop acc σ' H' w,he acc σ' H' w⟩
theorem lX{a:Addr}{xs:List V}(Pv:Nat->List V->St->Hp->Prop)(h0:Pv 0 [] σ H)(hz:∀i acc σ H,Pv i acc σ H->acc.length<sizeLine)(hi:∀i acc σ H,Pv i acc σ H->i<=xs.length)
  (hl:∀i acc σ H,Pv i acc σ H->aW K H a xs)
  (hs:∀i x acc σ H,xs[i]?=some x->Pv i acc σ H->g x σ H λσ2 H3=>ti σ2 H3 λb H4=>if b=true then te σ2 H4 λv H5=>Pv (i+1) (acc++[v]) σ2 H5 else Pv (i+1) acc σ2 H4)
  (he:∀acc σ H,Pv xs.length acc σ H->Q acc H):f_ (AD K a) g ti te σ H Q:=by
 exact iS (J:=AD K a) (g:=g) (ti:=ti) (te:=te) (Q:=Q) (n:=xs.length) Pv h0 hz hi (λacc σ H w=>⟨xs,hl _ _ _ _ w,Jo _⟩)
  (λi acc σ H hlt w=>⟨xs,xs[i],hl _ _ _ _ w,IQ hlt⟩) (λi x acc σ H H2 hlt w y=>by obtain⟨rfl,hx⟩:=y;exact hs i x acc σ H2 (hx xs (hl _ _ _ _ w)) w) he
theorem gv{lo:Int}{n:Nat}(Pv:Nat->List V->St->Hp->Prop)(h0:Pv 0 [] σ H)(hz:∀i acc σ H,Pv i acc σ H->acc.length<sizeLine)(hi:∀i acc σ H,Pv i acc σ H->i<=n)
  (hs:∀i acc σ H,i<n->Pv i acc σ H->g (.int (lo+i)) σ H λσ2 H3=>ti σ2 H3 λb H4=>if b=true then te σ2 H4 λv H5=>Pv (i+1) (acc++[v]) σ2 H5 else Pv (i+1) acc σ2 H4)
  (he:∀acc σ H,Pv n acc σ H->Q acc H):f_ (ze lo n) g ti te σ H Q:=by
 exact iS (J:=ze lo n) (g:=g) (ti:=ti) (te:=te) (Q:=Q) (n:=n) Pv h0 hz hi (λacc σ H w=>Jo _) (λi acc σ H hlt w=>hlt) (λi x acc σ H H2 hlt w y=>by obtain⟨rfl,rfl⟩:=y;exact hs i acc σ H2 hlt w) he
end
structure cY(P:J3)(w:J9)(K:JT)(mg:JZ)(base:Heap)(CX:ia)(k:Nat)(x:Str)(ps:J4)(sp:Sp):Prop where
 ex:∃(f:Addr) (fd:J0),bb P w K mg base CX k f fd ps sp/\mg x=some (.ref f)/\PySem.W.keepIn K (.ref f)=true/\cI K fd ps []
structure NB(mg:JZ):Prop where
 len:mg "len"=none
 range:mg "range"=none
 list:mg "list"=none
 tuple:mg "tuple"=none
 isinstance:mg "isinstance"=none
 int:mg "int"=none
 bool:mg "bool"=none
 str:mg "str"=none
 reversed:mg "reversed"=none
 all:mg "all"=none
 enumerate:mg "enumerate"=none
 zip:mg "zip"=none
 sorted:mg "sorted"=none
 set:mg "set"=none
 dict:mg "dict"=none
 min:mg "min"=none
 max:mg "max"=none
 sum:mg "sum"=none
 ValueError:mg "ValueError"=none
section
variable {X:Cx}{CX:ia}{k:Nat}{x:Str}{ps:J4}{sp:Sp}{E:XK}{p pos:Pos}{e:Expr}{es:Kb}{t:TA}
theorem aO(C:cY X.prog X.w X.K X.mg X.base CX k x ps sp)(hr:b_ k X.A)(hg:Gl X x)(hx:cu CX X E)(ha:PA X (e::es) t)(hdb:autoParam ((x==("__debug__":Str))=false) zz2._auto_1)
  (hst:autoParam (starEach (e::es) X.env=(false,eval e X.env)::starEach es X.env) zz0._auto_1) (hpl:autoParam ((backTo pos (starEach es X.env)).any (·.1)=false) zz0._auto_1):PE X (.Call (.Name x p) (e::es) [] pos) (ml sp [] E t):=by
 obtain⟨f,fd,F,hm,hk,hb⟩:=C.ex;exact CH F hr hg hm hk hb .nil hx ha hdb hst hpl
end
section
variable {X:Cx}{tg:Expr}
def Bh(_ j:Int):Prop:=0<j/\j<18446744073709551616
theorem bi:aZ X (binaryOp .FloorDiv) (rI Bh λi j=>.int (i/j)):=EU λi j _ _ _ _ _ hc q=>by
 have h1:(0:Int)<j:=hc.1;have h2:j<18446744073709551616:=hc.2;refine floordiv_int ⋯ (by rw[Int.fdiv_eq_ediv_of_nonneg i ⋯];exact q) (.inl (PyProof.noPylong_of_log2 ?_));have h64:j.natAbs.log2<64:=(Nat.log2_lt ⋯).mpr ⋯;omega
theorem jH:∀{ys:J4} {us:JX},aY (ys.map V.str) us->StrsAre us ys
 | [],_,.nil=>.nil
 |y::ys,_,.cons r t=>by
  obtain⟨tk,rfl⟩:=r;exact .cons y tk (jH t)
noncomputable def wM(K:JT):V->List V->Hp->VK->Prop:=λx xs H Q=>∃z p ys,x=.str z/\xs=[.ref p]/\(aW K H p (ys.map V.str)\/bc K H p (ys.map V.str))/\(ys.map (·.length)).sum+ys.length*z.length<=16777216/\Q (.str (Txt.join z ys)) H
theorem mX:Eo X "str.join" (wM X.K):=by
 intro pins s σ H x xs v us Q I rx rv h;obtain⟨z,p,ys,rfl,rfl,hs,hz,q⟩:=h;obtain⟨t,rfl⟩:=rx;obtain⟨u,rfl,ru⟩:=rv.one;cases ru;rcases hs with hs | hs
 ·obtain⟨its,r,pl,_⟩:=I.list hs
  exact join_list pl.isList (by simpa using jH r) hz λt' k=>⟨.str _,H,I.tok k,⟨t',rfl⟩,q⟩
 ·obtain⟨its,r,pl,_⟩:=I.tuple hs
  exact join_tuple pl (by simpa using jH r) hz λt' k=>⟨.str _,H,I.tok k,⟨t',rfl⟩,q⟩
noncomputable def ED(x:Str):It:=⟨λi _=>i<x.cps.size,λi H v H'=>H'=H/\∃c,x.cps[i]?=some c/\v=.str ⟨#[c]⟩,λi _=>x.cps.size<=i⟩
theorem zp{P:J3}{w:J9}{K:JT}{tg:Expr}(x:Str)(t:Tok)(it:Addr):nI P w K tg (ED x) [it] it (λi h=>h.IsStrIter it (strIterType x) x t i) where
 mem:=by simp
 obj:=λi h st b hb=>by
  have e:b=it:=by simpa using hb
  subst e;obtain⟨o,e,c,d⟩:=st;exact⟨o,e,λv z=>by rw[d]at z;cases z⟩
 keep:=λi h h' st k=>by
  obtain⟨o,e,c,d⟩:=st;exact⟨o,k it (by simp) o e,c,d⟩
 item:=by
  intro X hP hw hK hc i pins s σ H E I hf st hg;subst hP hw hK;obtain⟨f0,f1,f2,f3,f4,f5⟩:=hf it (by simp);have hi:i<x.cps.size:=hg;have hx:x.cps[i]?=some x.cps[i]:=Array.getElem?_eq_getElem hi;have fin:∀h',h'.IsStrIter it (strIterType x) x t (i+1)->Heap.SameBut it s.heap h'->∃u,(some (Value.str ⟨#[x.cps[i]]⟩ s.toks))=some u /\
    wpAny (model X.prog X.w) X.A (letOwnedTupleGo tg (.ref it) u) (λ_ s2=>∃v H',Inv X pins σ H' s2/\bq v u/\(ED x).yld i H v H'/\s2.heap.IsStrIter it (strIterType x) x t (i+1)/\∀b∈[it],H' b=none) E {s with heap:=h',toks:=s.toks+1}:=λh' st' sb=>by
   have I1:Inv X pins σ H {s with heap:=h',toks:=s.toks+1}:=I.turned (λb o hb e=>(sb.2 b hb).trans e) f0 f1 f3 f4 f5;obtain⟨o,e,c,d⟩:=id st';refine⟨_,rfl,pZ (s:={s with heap:=h',toks:=s.toks+1}) e c d ?_ ⟨.str ⟨#[x.cps[i]]⟩,H,I1,⟨_,rfl⟩,⟨rfl,_,hx,rfl⟩,st',λb hb=>(hf b hb).1⟩⟩;unfold strIterType
   split<;>decide
  cases ha:x.cps.all (· < 128) with
  |true=>
   have ety:strIterType x="str_ascii_iterator":=by unfold strIterType;rw[ha];rfl
   rw[ety]at st fin ⊢;exact wpAny_pyNext_ascii_item st hx fin
  |false=>
   have ety:strIterType x="str_iterator":=by unfold strIterType;rw[ha];rfl
   rw[ety]at st fin ⊢;exact wpAny_pyNext_wide_item st hx fin
 done:=by
  intro X hP hw hK hc i pins s σ H E I hf st hg;subst hP hw hK;obtain⟨f0,f1,f2,f3,f4,f5⟩:=hf it (by simp);have hi:x.cps.size<=i:=hg;have hx:x.cps[i]?=none:=Array.getElem?_eq_none hi;cases ha:x.cps.all (· < 128) with
  |true=>
   have ety:strIterType x="str_ascii_iterator":=by unfold strIterType;rw[ha];rfl
   rw[ety]at st;exact wpAny_pyNext_ascii_end (I.ok.hd hc) st hx λh' eb=>⟨rfl,I.turned (t':=s.toks) (λb o hb e=>eb b o hb e) f0 f1 f3 f4 f5⟩
  |false=>
   have ety:strIterType x="str_iterator":=by unfold strIterType;rw[ha];rfl
   rw[ety]at st;exact wpAny_pyNext_wide_end (I.ok.hd hc) st hx λh' eb=>⟨rfl,I.turned (t':=s.toks) (λb o hb e=>eb b o hb e) f0 f1 f3 f4 f5⟩
 self:=λA i s Q E st h=>by
  cases ha:x.cps.all (· < 128) with
  |true=>
   have ety:strIterType x="str_ascii_iterator":=by unfold strIterType;rw[ha];rfl
   rw[ety]at st;exact wpAny_pyIter_striter_ascii st h
  |false=>
   have ety:strIterType x="str_iterator":=by unfold strIterType;rw[ha];rfl
   rw[ety]at st;exact wpAny_pyIter_striter_wide st h
noncomputable def DF(tl:TE):TI:=λσ H R=>tl σ H λv H1=>∃x,v=.str x/\R (ED x) H1
theorem Du{l:Expr}{tl:TE}(hl:PE X l tl):PI X tg l (DF tl):=by
 intro pins s σ H R I h;refine bM (hl pins s σ H _ I h) λv s1 ⟨x,H1,I1,r1,q1⟩=>?_;obtain⟨x,rfl,q⟩:=q1;obtain⟨t,rfl⟩:=r1;refine wpAny_pyIter_strU ?_;refine⟨s1.heap.objs.size,[s1.heap.objs.size],_,_,H1,rfl,I1.kept (t':=s1.toks) λb o e=>IS _ e,zp x t _,⟨_,IY _ rfl,rfl,rfl⟩,λb hb=>?_,q⟩;have e:b=s1.heap.objs.size:=by simpa using hb
 subst e;exact I1.fpOk (Jo _) (I1.hok.fresh (Jo _))
noncomputable def EQ(K:JT)(a:Addr)(n:Nat):It:=
 ⟨λi H=>∃xs x,aW K H a xs/\i<n/\xs[n-1-i]?=some x,λi H x H'=>H'=H/\∀xs,aW K H a xs->xs[n-1-i]?=some x,λi _=>i=n⟩
theorem zP{P:J3}{w:J9}{K:JT}{tg:Expr}(a it:Addr)(n:Nat):nI P w K tg (EQ K a n) [it] it (λi h=>h.IsRevIter it a ((n:Int)-1-(i:Int))) where
 mem:=by simp
 obj:=λi h st b hb=>by
  have e:b=it:=by simpa using hb
  subst e;obtain⟨o,e,c,d⟩:=st;exact⟨o,e,λv z=>by rw[d]at z;cases z⟩
 keep:=λi h h' st k=>st.at λo e=>k it (by simp) o e
 item:=by
  intro X hP hw hK hc i pins s σ H E I hf st hg;subst hP hw hK;obtain⟨xs,x,hq,hi,hx⟩:=hg;obtain⟨its,rv,p,hz⟩:=I.list hq;obtain⟨u,hu,ru⟩:=rv.get hx;obtain⟨f0,f1,f2,f3,f4,f5⟩:=hf it (by simp);have e:(n:Int)-1-(i:Int)=((n-1-i:Nat):Int):=by omega
  have st1:=st;rw[e]at st1;refine wpAny_pyNext_rev_item st1 p.isList (x:=u) (by simpa using hu) λh' st' sb=>?_;have e2:((n-1-i:Nat):Int)-1=(n:Int)-1-((i+1:Nat):Int):=by omega
  rw[e2]at st';have I1:Inv X pins σ H {s with heap:=h' }:=I.turned (t':=s.toks) (λb o hb e=>(sb.2 b hb).trans e) f0 f1 f3 f4 f5;obtain⟨o,e,c,d⟩:=id st';exact⟨u,rfl,pZ (s:={s with heap:=h' }) e c d nofun ⟨x,H,I1,ru,⟨rfl,λys hy=>by rw[I.list_inj hy hq];exact hx⟩,st',λb hb=>(hf b hb).1⟩⟩
 done:=by
  intro X hP hw hK hc i pins s σ H E I hf st hg;subst hP hw hK;obtain⟨f0,f1,f2,f3,f4,f5⟩:=hf it (by simp);have hi:i=n:=hg;subst hi;have e:(i:Int)-1-(i:Int) = -1:=by omega
  rw[e]at st;exact wpAny_pyNext_rev_end (I.ok.hd hc) st λh' eb=>⟨rfl,I.turned (t':=s.toks) (λb o hb e=>eb b o hb e) f0 f1 f3 f4 f5⟩
 self:=λ_ _ _ _ _ st h=>wpAny_pyIter_revIter st h
noncomputable def D3(K:JT)(ta:TA):TI:=λσ H R=>ta σ H λvs H1=>∃a xs,vs=[.ref a]/\aW K H1 a xs/\R (EQ K a xs.length) H1
theorem Ee{a:Expr}{ta:TA}{p pos:Pos}(hg:Gl X "reversed")(hm:X.mg "reversed"=none)(ha:PA X [a] ta)(hs:autoParam (starEach [a] X.env=[(false,eval a X.env)]) zz0._auto_1):PI X tg (.Call (.Name "reversed" p) [a] [] pos) (D3 X.K ta):=by
 intro pins s σ H R I h;refine Call_ (b5 I hg hm boot_reversed (PyProof.Rows.callWith_type1 (bM (ha pos pins s σ H _ I h) λus s1 ⟨vs,H1,I1,r1,q1⟩=>?_) hs rfl));obtain⟨l,xs,rfl,hq,q⟩:=q1;obtain⟨u,rfl,ru⟩:=r1.one;cases ru;obtain⟨its,rv,pl,hz⟩:=I1.list hq;have hlen:=rv.length;refine call_reversed_list pl.isList ?_;have es:its.toArray.size=xs.length:=by rw[IZ,hlen]
 rw[es];have I2:Inv X pins σ H1 {s1 with heap:=s1.heap.push (revObj l ((xs.length:Int)-1))}:=I1.kept (t':=s1.toks) λb o e=>IS _ e;have st:(s1.heap.push (revObj l ((xs.length:Int)-1))).IsRevIter s1.heap.objs.size l ((xs.length:Int)-1-((0:Nat):Int)):=⟨_,IY _ rfl,rfl,by simp[revObj]⟩;refine wpAny_pyIter_revIter st ?_;refine⟨s1.heap.objs.size,[s1.heap.objs.size],_,_,H1,rfl,I2,zP l _ xs.length,st,λb hb=>?_,q⟩;have e:b=s1.heap.objs.size:=by simpa using hb
 subst e;exact I1.fpOk (Jo _) (I1.hok.fresh (Jo _))
noncomputable def Fg(sep:Str)(ta:TA):TE:=λσ H Q=>ta σ H λvs H1=>∃x,vs=[.str x]/\x.length<=1000/\sep.length<=1000/\Q (.str (Txt.join sep (x.cps.toList.reverse.map λc=>(⟨#[c]⟩:Str)))) H1
theorem wu{e:Expr}{ta:TA}{sep:Str}{j:Nat}{p0 ap p1 p2 cpos:Pos}(hc:X.calm=true)(hg:Gl X "reversed")(hm:X.mg "reversed"=none)(ha:PA X [e] ta)
  (hfew:autoParam (((backTo cpos (starEach [.Call (.Name "reversed" p1) [e] [] p2] X.env)).all (λx=>!x.1)&&(backToKw cpos (keywordEach [] X.env)).all (λx=>x.1.isSome)
   && decide ([Expr.Call (.Name "reversed" p1) [e] [] p2].length+([]:List Keyword).length+(if([]:List Keyword).isEmpty then 0 else 1)<30))=true) zz0._auto_1)
  (hline:autoParam ((ap.endLine==cpos.line)=true) zz0._auto_1) (hs:autoParam (starEach [e] X.env=[(false,eval e X.env)]) zz0._auto_1) :
  PE X (.Call (.Attribute (.Constant (.str sep) j p0) "join" ap) [.Call (.Name "reversed" p1) [e] [] p2] [] cpos) (Fg sep ta):=by
 intro pins s σ H Q I h;refine wpAny_Call_method_late rfl hfew hline rfl (bM (cT (X:=X) pins s σ H (λv H1=>v=.str sep/\H1=H) I ⟨rfl,rfl⟩) λv s1 ⟨x,H1,I1,r1,hx⟩=>?_);obtain⟨rfl,rfl⟩:=hx;obtain⟨t0,rfl⟩:=r1;refine⟨"str",_,F.plainAttrs_str,F.slot_str_join,F.type_str_join,typeIs_str _ _ _,(λa z=>nomatch z),?_⟩;refine Calls.callWith_builtin rfl (Calls.evalArgs_plain ?_);show wpAny _ _ (spliced ((false,eval (.Call (.Name "reversed" p1) [e] [] p2) X.env)::[])) _ _ s1;refine Calls.spliced_cons ?_;refine Call_ (b5 I1 hg hm boot_reversed (PyProof.Rows.callWith_type1 (bM (ha p2 pins s1 σ H1 _ I1 h) λus s2 ⟨vs,H2,I2,r2,q2⟩=>?_) hs rfl));obtain⟨x,rfl,hz,hsp,q⟩:=q2;obtain⟨u,rfl,ru⟩:=r2.one;obtain⟨t,rfl⟩:=ru;have hsl:sizeLine=16777216:=sizeLine_eq;refine jU ⋯ (Calls.spliced_nil ?_);have I3:Inv X pins σ H2 {s2 with heap:=s2.heap.push (wy x t ((x.length:Int)-1)),toks:=s2.toks+1+1}:=I2.kept λb o e=>IS _ e;have fp:=I2.fpOk (b:=s2.heap.objs.size) (H':=H2) (Jo _) (I2.hok.fresh (Jo _));obtain⟨f0,f1,f2,f3,f4,f5⟩:=fp;refine Bz (I3.ok.hd hc) (I:=s2.heap.objs.size) (x:=x) (t:=t) ⟨_,IY _ rfl,rfl,rfl⟩ hz hsp λs' t' k keep eg ed eo=>?_;obtain⟨h',g',d',k',o'⟩:=s';cases eg;cases ed;cases eo;exact⟨.str _,H2,I3.turned (t':=k) (λb o hb e=>keep b o hb e) f0 f1 f3 f4 f5,⟨t',rfl⟩,q⟩
noncomputable def v7:V->Value
 | .ty n=>.type n
 | .ref a=>.ref a
 |_=>.none
noncomputable def iz:V->Bool
 | .ty _=>true
 | .ref _=>true
 |_=>false
theorem mS{c:V}{u:Value}(r:bq c u)(h:iz c=true):u=v7 c:=by
 cases c with
 |ty n=>exact r
 |ref a=>exact r
 |_=>cases h
noncomputable def B_(K:JT):List V->Hp->VK->Prop:=λxs H Q=>∃x c t b,xs=[x,c]/\iz c=true/\i9 K H x t/\PySem.W.kitOne K t (v7 c)=some b/\Q (.bl b) H
theorem cZ:fb X (.builtin "isinstance") (B_ X.K):=by
 intro pins s σ H xs us Q I r h;obtain⟨x,c,t,b,rfl,hc,ty,e,q⟩:=h;obtain⟨u,v,rfl,ru,rv⟩:=r.two;rw[mS rv hc];exact yU I ru ty e λtk=>⟨.bl b,H,I.tok tk,rfl,q⟩
theorem uK(K:JT)(n:String):PySem.W.kitOne K (.type n) (.type n)=some true:=by
 unfold PySem.W.kitOne;rw[if_pos (beq_self_eq_true _)]
inductive Dt where
 |non | bl (b:Bool) | int (i:Int) | str (x:Str) | lst (ds:List Dt) | tup (ds:List Dt)
mutual
noncomputable def jN(K:JT)(H:Hp):Dt->V->Prop
 | .non,v=>v=.non
 | .bl b,v=>v=.bl b
 | .int i,v=>v=.int i
 | .str x,v=>v=.str x
 | .lst ds,v=>∃a xs,v=.ref a/\aW K H a xs/\dM K H ds xs
 | .tup ds,v=>∃a xs,v=.ref a/\bc K H a xs/\dM K H ds xs
noncomputable def dM(K:JT)(H:Hp):List Dt->List V->Prop
 | [],xs=>xs=[]
 |d::ds,xs=>∃x r,xs=x::r/\jN K H d x/\dM K H ds r
end
mutual
noncomputable def Dt.dep:Dt->Nat
 | .lst ds=>Dt.deps ds+1
 | .tup ds=>Dt.deps ds+1
 |_=>0
noncomputable def Dt.deps:List Dt->Nat
 | []=>0
 |d::ds=>max (Dt.dep d) (Dt.deps ds)
end
theorem dM.length{K:JT}{H:Hp}:∀{ds:List Dt} {xs:List V},dM K H ds xs->xs.length=ds.length
 | [],_,h=>by unfold dM at h;rw[h];rfl
 |d::ds,xs,h=>by
  unfold dM at h;obtain⟨x,r,rfl,_,h2⟩:=h;simp[dM.length h2]
theorem dM.get{K:JT}{H:Hp}:∀{ds:List Dt} {xs:List V} {j:Nat} {x:V},dM K H ds xs->xs[j]?=some x->∃d,ds[j]?=some d/\jN K H d x
 | [],_,_,_,h,e=>by unfold dM at h;rw[h]at e;simp at e
 |d::ds,xs,j,x,h,e=>by
  unfold dM at h;obtain⟨y,r,rfl,h1,h2⟩:=h;cases j with
  |zero=>simp at e;subst e;exact⟨d,rfl,h1⟩
  |succ j=>
   obtain⟨d',e1,e2⟩:=dM.get (j:=j) h2 (by simpa using e);exact⟨d',by simpa using e1,e2⟩
theorem jT:∀{ds:List Dt} {j:Nat} {d:Dt},ds[j]?=some d->d.dep<=Dt.deps ds
 | [],_,_,e=>by simp at e
 |d'::ds,0,d,e=>by simp at e;subst e;unfold Dt.deps;omega
 |d'::ds,j+1,d,e=>by
  have:=jT (ds:=ds) (j:=j) (by simpa using e);unfold Dt.deps;omega
theorem kI(n:Nat):(List.range n).all (λ_=>true)=true:=by simp
theorem DS{pins:JU}{σ:St}{H:Hp}{s:JW}(I:Inv X pins σ H s):∀(n:Nat) (d:Dt) (A:J8) {v u:V} {vv uu:Value},d.dep<=n->A.units+n<cLine->jN X.K H d v->jN X.K H d u->bq v vv->bq u uu->SeqAt.EqAt A s vv uu true:=by
 intro n
 induction n with
 |zero=>
  intro d A v u vv uu hd hA h1 h2 r1 r2;cases d with
  |non=>unfold jN at h1 h2;subst h1 h2;have:=gm (A:=A) (s:=s) r1 r2 rfl rfl;exact this
  |bl b=>unfold jN at h1 h2;subst h1 h2;have:=gm (A:=A) (s:=s) r1 r2 rfl rfl;simpa[uV]using this
  |int i=>unfold jN at h1 h2;subst h1 h2;have:=gm (A:=A) (s:=s) r1 r2 rfl rfl;simpa[uV]using this
  |str x=>unfold jN at h1 h2;subst h1 h2;have:=gm (A:=A) (s:=s) r1 r2 rfl rfl;simpa[uV]using this
  |lst ds=>unfold Dt.dep at hd;omega
  |tup ds=>unfold Dt.dep at hd;omega
 |succ n ih=>
  intro d A v u vv uu hd hA h1 h2 r1 r2;cases d with
  |non=>unfold jN at h1 h2;subst h1 h2;have:=gm (A:=A) (s:=s) r1 r2 rfl rfl;exact this
  |bl b=>unfold jN at h1 h2;subst h1 h2;have:=gm (A:=A) (s:=s) r1 r2 rfl rfl;simpa[uV]using this
  |int i=>unfold jN at h1 h2;subst h1 h2;have:=gm (A:=A) (s:=s) r1 r2 rfl rfl;simpa[uV]using this
  |str x=>unfold jN at h1 h2;subst h1 h2;have:=gm (A:=A) (s:=s) r1 r2 rfl rfl;simpa[uV]using this
  |lst ds=>
   unfold jN at h1 h2;obtain⟨a,xs,rfl,ha,hxs⟩:=h1;obtain⟨b,ys,rfl,hb,hys⟩:=h2;cases r1;cases r2
   by_cases hab:a=b
   ·subst hab;exact SeqAt.EqAt.same _
   ·unfold Dt.dep at hd
    obtain⟨its,ra,pa,_⟩:=I.list ha;obtain⟨its2,rb,pb,_⟩:=I.list hb;have l1:=ra.length;have l2:=rb.length;have l3:=hxs.length;have l4:=hys.length
    have hsz:its.toArray.size=its2.toArray.size:=by simp;omega
    have q:=SeqAt.RcAt.lists (A:=A) (s:=s) (e:=λ_=>true) pa.isList pb.isList hsz ⋯ λj g1 g2=>by
     have g1':j<its.length:=by simpa using g1
     have g2':j<its2.length:=by simpa using g2
     have x1:xs[j]?=some xs[j]:=IQ ⋯;have y1:ys[j]?=some ys[j]:=IQ ⋯;obtain⟨d,e1,rd1⟩:=hxs.get x1;obtain⟨d',e2,rd2⟩:=hys.get y1;rw[e1]at e2;cases e2
     obtain⟨w1,f1,rr1⟩:=ra.get x1;obtain⟨w2,f2,rr2⟩:=rb.get y1;rw[IQ g1']at f1;rw[IQ g2']at f2;cases f1;cases f2
     have hdep:=jT e1;simp only[JI];exact ih d A.in1 ⋯ (by show A.units+1+n<cLine;omega) rd1 rd2 rr1 rr2
    rw[kI]at q;exact SeqAt.EqAt.of_refs hab q
  |tup ds=>
   unfold jN at h1 h2;obtain⟨a,xs,rfl,ha,hxs⟩:=h1;obtain⟨b,ys,rfl,hb,hys⟩:=h2;cases r1;cases r2
   by_cases hab:a=b
   ·subst hab;exact SeqAt.EqAt.same _
   ·unfold Dt.dep at hd
    obtain⟨its,ra,pa,_⟩:=I.tuple ha;obtain⟨its2,rb,pb,_⟩:=I.tuple hb;have l1:=ra.length;have l2:=rb.length;have l3:=hxs.length;have l4:=hys.length
    have q:=SeqAt.RcAt.tuples (A:=A) (s:=s) (e:=λ_=>true) (show s.heap.IsTuple a its.toArray from pa) (show s.heap.IsTuple b its2.toArray from pb) ⋯ λj g1 g2=>by
     have g1':j<its.length:=by simpa using g1
     have g2':j<its2.length:=by simpa using g2
     have x1:xs[j]?=some xs[j]:=IQ ⋯;have y1:ys[j]?=some ys[j]:=IQ ⋯;obtain⟨d,e1,rd1⟩:=hxs.get x1;obtain⟨d',e2,rd2⟩:=hys.get y1;rw[e1]at e2;cases e2
     obtain⟨w1,f1,rr1⟩:=ra.get x1;obtain⟨w2,f2,rr2⟩:=rb.get y1;rw[IQ g1']at f1;rw[IQ g2']at f2;cases f1;cases f2
     have hdep:=jT e1;simp only[JI];exact ih d A.in1 ⋯ (by show A.units+1+n<cLine;omega) rd1 rd2 rr1 rr2
    have e0:((List.range (min its.toArray.size its2.toArray.size)).all (λ_=>true)&&its.toArray.size==its2.toArray.size)=true:=by
     rw[kI,Bool.true_and];simp;omega
    rw[e0]at q;exact SeqAt.EqAt.of_refs hab q
noncomputable def Ec(K:JT)(neg:Bool):R2:=λx y H Q=>
 (∃ds,Dt.deps ds<=40/\((jN K H (.lst ds) x/\jN K H (.lst ds) y)\/(jN K H (.tup ds) x/\jN K H (.tup ds) y))/\Q (.bl (!neg)) H) \/
 (∃a b xs ys,x=.ref a/\y=.ref b/\aW K H a xs/\aW K H b ys/\xs.length≠ys.length/\Q (.bl neg) H)
theorem vV(hu:X.A.units+64<cLine):aZ X (compareOp .Eq) (Ec X.K false):=by
 intro pins s σ H x y v u Q I rx ry h;rcases h with⟨ds,hd,h,q⟩ | ⟨a,b,xs,ys,rfl,rfl,ha,hb,hne,q⟩
 ·have fin:EP X pins σ Q (.bool true) s:=⟨.bl true,H,I,rfl,q⟩
  have item:∀{xs ys:List V} {its its2:JX},dM X.K H ds xs->dM X.K H ds ys->aY xs its->aY ys its2->∀j (h1:j<its.toArray.size) (h2:j<its2.toArray.size),SeqAt.EqAt X.A.in1 s its.toArray[j] its2.toArray[j] true:=fun{xs ys its its2} hxs hys ra rb j g1 g2=>by
   have l1:=ra.length;have l2:=rb.length;have l3:=hxs.length;have l4:=hys.length
   have g1':j<its.length:=by simpa using g1
   have g2':j<its2.length:=by simpa using g2
   have x1:xs[j]?=some xs[j]:=IQ ⋯;have y1:ys[j]?=some ys[j]:=IQ ⋯;obtain⟨d,e1,rd1⟩:=hxs.get x1;obtain⟨d',e2,rd2⟩:=hys.get y1;rw[e1]at e2;cases e2
   obtain⟨w1,f1,rr1⟩:=ra.get x1;obtain⟨w2,f2,rr2⟩:=rb.get y1;rw[IQ g1']at f1;rw[IQ g2']at f2;cases f1;cases f2
   have hdep:=jT e1;simp only[JI];exact DS I 40 d X.A.in1 ⋯ (by show X.A.units+1+40<cLine;omega) rd1 rd2 rr1 rr2
  rcases h with⟨h1,h2⟩ | ⟨h1,h2⟩
  ·unfold jN at h1 h2
   obtain⟨a,xs,rfl,ha,hxs⟩:=h1;obtain⟨b,ys,rfl,hb,hys⟩:=h2;cases rx;cases ry
   obtain⟨its,ra,pa,_⟩:=I.list ha;obtain⟨its2,rb,pb,_⟩:=I.list hb;have l1:=ra.length;have l2:=rb.length;have l3:=hxs.length;have l4:=hys.length
   have q:=SeqAt.RcAt.lists (A:=X.A) (s:=s) (e:=λ_=>true) pa.isList pb.isList (by simp;omega) ⋯ (item hxs hys ra rb);rw[kI]at q;exact q _ _ _ _ fin
  ·unfold jN at h1 h2
   obtain⟨a,xs,rfl,ha,hxs⟩:=h1;obtain⟨b,ys,rfl,hb,hys⟩:=h2;cases rx;cases ry
   obtain⟨its,ra,pa,_⟩:=I.tuple ha;obtain⟨its2,rb,pb,_⟩:=I.tuple hb;have l1:=ra.length;have l2:=rb.length;have l3:=hxs.length;have l4:=hys.length
   have q:=SeqAt.RcAt.tuples (A:=X.A) (s:=s) (e:=λ_=>true) (show s.heap.IsTuple a its.toArray from pa) (show s.heap.IsTuple b its2.toArray from pb) ⋯ (item hxs hys ra rb);have e0:((List.range (min its.toArray.size its2.toArray.size)).all (λ_=>true)&&its.toArray.size==its2.toArray.size)=true:=by
    rw[kI,Bool.true_and];simp;omega
   rw[e0]at q;exact q _ _ _ _ fin
 ·cases rx;cases ry
  obtain⟨its,ra,pa,_⟩:=I.list ha;obtain⟨its2,rb,pb,_⟩:=I.list hb;have l1:=ra.length;have l2:=rb.length
  exact SeqAt.RcAt.lists_lengths pa.isList pb.isList (by simp;omega) ⋯ _ _ _ _ ⟨.bl false,H,I,rfl,q⟩
theorem wI{K:JT}{H:Hp}{ys:J4}:dM K H (ys.map Dt.str) (ys.map V.str):=by
 induction ys with
 |nil=>unfold dM;rfl
 |cons y ys ih=>
  show dM K H (Dt.str y::ys.map Dt.str) (V.str y::ys.map V.str);unfold dM;exact⟨_,_,rfl,by unfold jN;rfl,ih⟩
theorem xN(ys:J4):Dt.deps (ys.map Dt.str)=0:=by
 induction ys with
 |nil=>rfl
 |cons y ys ih=>show max (Dt.dep (.str y)) (Dt.deps (ys.map Dt.str))=0;rw[ih];rfl
end
end L2
namespace bC
noncomputable abbrev FX:=List Nat
noncomputable abbrev bC:=List FX
def eG(p:bC)(r c:Nat):Prop:=p.length=r/\∀x∈p,x.length=c
noncomputable def eD(p:bC):bC:=p.map List.reverse
noncomputable def col(p:bC)(i:Nat):FX:=p.reverse.map λx=>x.getD i 0
noncomputable def eX(p:bC):bC:=(List.range (p.headD []).length).map (col p)
noncomputable def bA:Nat->bC->bC
 |0,p=>p
 |n+1,p=>bA n (eX p)
noncomputable def turned(p:bC)(t:Nat):bC:=bA (t%4) (if 4<=t then eD p else p)
theorem A2{p:bC}{r c i:Nat}(h:eG p r c)(hi:i<r):(p.getD i []).length=c:=by
 have hl:i<p.length:=by rw[h.1];exact hi
 rw[List.getD_eq_getElem?_getD,IQ hl];exact h.2 _ (I_ hl)
theorem bQ{p:bC}{r c:Nat}(h:eG p r c)(hr:0<r):(p.headD []).length=c:=by
 have:=A2 h hr;cases p with
 |nil=>have:=h.1;simp at this;omega
 |cons x p=>simpa using this
theorem il{p:bC}{r c:Nat}(h:eG p r c):eG (eD p) r c:=by
 refine⟨by simp[eD,h.1],λx hx=>?_⟩;obtain⟨y,hy,rfl⟩:=JG.mp hx;rw[Ji];exact h.2 y hy
theorem tw{p:bC}{r c:Nat}(h:eG p r c)(hr:0<r):eG (eX p) c r:=by
 refine⟨by unfold eX;rw[IT,List.length_range,bQ h hr],λx hx=>?_⟩;obtain⟨i,_,rfl⟩:=JG.mp hx;simp[col,h.1]
theorem dU:∀(n:Nat) {p:bC} {r c:Nat},eG p r c->0<r->0<c->eG (bA n p) (if n%2=0 then r else c) (if n%2=0 then c else r)
 |0,_,_,_,h,_,_=>h
 |n+1,p,r,c,h,hr,hc=>by
  have:=dU n (tw h hr) hc hr;show eG (bA n (eX p)) _ _
  by_cases e:n%2=0
  ·rw[if_pos e,if_pos e]at this
   rw[if_neg ⋯,if_neg ⋯];exact this
  ·rw[if_neg e,if_neg e]at this
   rw[if_pos ⋯,if_pos ⋯];exact this
theorem kz(a b:Nat)(p:bC):bA a (bA b p)=bA (b+a) p:=by
 induction b generalizing p with
 |zero=>rw[Nat.zero_add];rfl
 |succ b ih=>show bA a (bA b (eX p))=_;rw[ih,Nat.add_right_comm];rfl
noncomputable def after(t u:Nat):Nat:=if u<4 then t/4*4+(t+u)%4 else(1-t/4)*4+(u+8-t)%4
noncomputable def FF(t:Nat):Nat:=if t<4 then(4-t)%4 else t
end bC
namespace QL
open PySem L2 bC
noncomputable def tx(r:JV):Str:=⟨r.toArray⟩
noncomputable def aD(p:bC):List V:=p.map λr=>V.str (tx r)
theorem aH(r:JV):(tx r).length=r.length:=by show r.toArray.size=r.length;simp
theorem iI(r:JV):(tx r).cps.toList=r:=by show r.toArray.toList=r;simp
theorem av(p:bC):(aD p).length=p.length:=by unfold aD;simp
theorem oF(p:bC):aD p=(p.map tx).map V.str:=by unfold aD;rw[Jf];rfl
theorem bh{p:bC}{i:Nat}(h:i<p.length):(aD p)[i]?=some (V.str (tx p[i])):=by unfold aD;rw[IV,IQ h];rfl
theorem eY(p:bC)(r:JV):aD (p++[r])=aD p++[V.str (tx r)]:=by unfold aD;simp
theorem Bl:∀(ys:List (List Nat)),Txt.join (Str.ofString "") (ys.map tx)=tx ys.flatten
 | []=>rfl
 |y::ys=>by
  have key:∀(zs:List (List Nat)) (a:JV),(zs.map tx).foldl (λacc (p:Str)=>acc++(Str.ofString "").cps++p.cps) a.toArray=(a++zs.flatten).toArray:=by
   intro zs
   induction zs with
   |nil=>intro a;simp
   |cons z zs ih=>
    intro a;rw[Ju,List.foldl_cons];have e:a.toArray++(Str.ofString "").cps++(tx z).cps=(a++z).toArray:=by
     have e0:(Str.ofString "").cps=#[]:=rfl;rw[e0];show a.toArray ++ #[]++z.toArray=_;simp
    rw[e,ih];simp
  show(⟨(ys.map tx).foldl (λacc (p:Str)=>acc++(Str.ofString "").cps++p.cps) (tx y).cps⟩:Str)=_;show(⟨(ys.map tx).foldl (λacc (p:Str)=>acc++(Str.ofString "").cps++p.cps) y.toArray⟩:Str)=_;rw[key]
  rfl
theorem fR(r:JV):Txt.join (Str.ofString "") (r.map λc=>(⟨#[c]⟩:Str))=tx r:=by
 have e:(r.map λc=>(⟨#[c]⟩:Str))=(r.map λc=>[c]).map tx:=by rw[Jf];rfl
 rw[e,Bl]
 congr 1
 clear e
 induction r with
 |nil=>rfl
 |cons c r ih=>simp[ih]
def qA(p:bC):Prop:=p.length<=64/\∀r∈p,r.length<=64
theorem qA.of{p:bC}{r c:Nat}(h:eG p r c)(hr:r<=64)(hc:c<=64):qA p:=⟨by rw[h.1];exact hr,λx hx=>by rw[h.2 x hx];exact hc⟩
theorem bp{n:Nat}(h:n<=1000000):n<sizeLine:=by have:=sizeLine_eq;omega
theorem ai{n:Nat}(h:n<=1000000):n<=sizeLine:=by have:=sizeLine_eq;omega
theorem ae{H:Hp}{l:Addr}{o:HO}(h:H l=none):az H (aC H l o):=λb u e=>by rw[aj (aJ e h)];exact e
theorem bL{H0 H:Hp}{l:Addr}{o:HO}(s:az H0 H)(h:H0 l=none):az H0 (aC H l o):=λb u e=>by rw[aj (aJ e h)];exact s b u e
theorem jX{p:bC}{r c i:Nat}(h:eG p r c)(hi:i<r):∃hl:i<p.length,(p[i]).length=c:=⟨by rw[h.1];exact hi,h.2 _ (I_ _)⟩
def bS(H:Hp)(p:bC)(Q:VK):Prop:=∀(l:Addr) (H':Hp),H l=none->H' l=some (.lst (aD p))->az H H'->Q (.ref l) H'
theorem DX{α:Type}{xs:List α}{i:Int}(h0:0<=i)(h1:i<xs.length):∃v,v∈xs/\fC xs i=some v:=by
 have hb:i.toNat<xs.length:=by omega
 obtain⟨j,hj⟩:∃j:Nat,i=(j:Int):=⟨i.toNat,⋯⟩;subst hj;exact⟨xs[j]'⋯,I_ _,aT (IQ ⋯)⟩
theorem xP{K:JT}{neg:Bool}{a b:Addr}{p:bC}{H:Hp}{Q:VK}(ha:aW K H a (aD p))(hb:aW K H b (aD p))(q:Q (.bl (!neg)) H):Ec K neg (.ref a) (.ref b) H Q:=by
 refine .inl ⟨(p.map tx).map Dt.str,by rw[xN];omega,.inl ⟨?_,?_⟩,q⟩
 ·unfold jN;exact⟨a,_,rfl,ha,by rw[oF];exact wI⟩
 ·unfold jN;exact⟨b,_,rfl,hb,by rw[oF];exact wI⟩
theorem rE(K:JT):PySem.W.kitOne K (.type "int") (.type "bool")=some false:=by kernel_rfl
end QL
namespace L2
open PySem PySem.Spec PyProof.Rows
section
variable {X:Cx}
theorem aQ:fb X (.builtin "len") (λxs H Q=>∃p ys,xs=[.ref p]/\aW X.K H p ys/\Q (.int ys.length) H):=λpins s σ H xs us Q I r ⟨p,ys,e,h,q⟩=>jY pins s σ H xs us Q I r ⟨p,ys,e,.inl h,q⟩
theorem dH:fb X (.builtin "len") (λxs H Q=>∃p ys,xs=[.ref p]/\bc X.K H p ys/\Q (.int ys.length) H):=λpins s σ H xs us Q I r ⟨p,ys,e,h,q⟩=>jY pins s σ H xs us Q I r ⟨p,ys,e,.inr h,q⟩
theorem z_{K:JT}{g:TG}{ti:TT}{te:TE}{σ:St}{H:Hp}{Q:List V->Hp->Prop}{a:Addr}{xs:List V}(Pv:Nat->List V->St->Hp->Prop)(h0:Pv 0 [] σ H)(hz:∀i acc σ H,Pv i acc σ H->acc.length<sizeLine)(hi:∀i acc σ H,Pv i acc σ H->i<=xs.length)
  (hl:∀i acc σ H,Pv i acc σ H->aW K H a xs)
  (hs:∀i x acc σ H,xs.reverse[i]?=some x->Pv i acc σ H->g x σ H λσ2 H3=>ti σ2 H3 λb H4=>if b=true then te σ2 H4 λv H5=>Pv (i+1) (acc++[v]) σ2 H5 else Pv (i+1) acc σ2 H4)
  (he:∀acc σ H,Pv xs.length acc σ H->Q acc H):f_ (EQ K a xs.length) g ti te σ H Q:=by
 have rv:∀{i:Nat} {x:V},i<xs.length->xs[xs.length-1-i]?=some x->xs.reverse[i]?=some x:=fun{i x} hi e=>by rw[List.getElem?_reverse hi];exact e
 exact iS (J:=EQ K a xs.length) (g:=g) (ti:=ti) (te:=te) (Q:=Q) (n:=xs.length) Pv h0 hz hi (λacc σ H w=>rfl)
  (λi acc σ H hlt w=>⟨xs,xs[xs.length-1-i]'⋯,hl _ _ _ _ w,hlt,IQ ⋯⟩) (λi x acc σ H H2 hlt w y=>by obtain⟨rfl,hx⟩:=y;exact hs i x acc σ H2 (rv hlt (hx xs (hl _ _ _ _ w))) w) he
theorem BU(i j:Int):(CP (.int i) (.int j)=true)=True:=by simp[CP]
theorem gN{a:Expr}{ta:TE}(ha:PE X a ta)(he:∀whole,isTrue a X.env whole=(do let v <- whole;standAt a.pos;holding [v] (truthy v))):PT X a (w4 ta):=by
 intro pins s σ H Q I h;rw[he];refine wpAny_bind (bM (ha pins s σ H _ I h) λv s1 ⟨x,H1,I1,r1,k,e,q⟩=>?_);subst e;cases r1;exact wpAny_bind (wpAny_standAt (wpAny_holding (wpAny_truthy_bool ⟨H1,I1,q⟩)))
def t5(J:It)(g:TG)(tb:TS)(D:gY)(σ:St)(H:Hp):Prop:=∃W:Nat->Nat->St->Hp->Prop,(∃m,W 0 m σ H)/\∀i m σ H,W i m σ H ->
 (J.stop i H/\D.nx σ H)\/(J.go i H/\∃N:St->Hp->Prop,(∀σ' H',N σ' H'->∃m',m'<m/\W (i+1) m' σ' H')/\∀x H',J.yld i H x H'->g x σ H' λσ2 H2=>tb {D with nx:=N,ct:=N,bk:=D.nx} σ2 H2)
noncomputable def AH(wi:TI)(g:TG)(tb:TS):TS:=λD σ H=>wi σ H λJ H1=>t5 J g tb D σ H1
theorem bK{tg iter:Expr}{body:List Stmt}{wi:TI}{g:TG}{tb:TS}{pos:Pos}(hp:PassesOwn (model X.prog X.w) X.A X.env X.xe)(hc:X.calm=true)(hi:PI X tg iter wi)(hg:PG X tg g)(hb:o9 X body tb)
  (hs:autoParam (∀x,foldedSetIterable iter X.env x=pure x) zz4._auto_1):PS X (.For tg iter body [] pos) (AH wi g tb):=DB hp hc hi hg hb hs
section
variable {K:JT}{g:TG}{tb:TS}{D:gY}{σ:St}{H:Hp}
theorem lB{a:Addr}{xs:List V}(Pv:Nat->St->Hp->Prop)(h0:Pv 0 σ H)(hl:∀i σ H,i<=xs.length->Pv i σ H->aW K H a xs)
  (hs:∀i x σ H,xs[i]?=some x->Pv i σ H->g x σ H λσ2 H2=>tb {D with nx:=Pv (i+1),ct:=Pv (i+1),bk:=D.nx} σ2 H2) (hd:∀σ H,Pv xs.length σ H->D.nx σ H):t5 (AD K a) g tb D σ H:=zr Pv h0 hl hs hd
theorem jS{a:Addr}{xs:List V}(Pv:Nat->St->Hp->Prop)(h0:Pv 0 σ H)(hl:∀i σ H,i<=xs.length->Pv i σ H->bc K H a xs)
  (hs:∀i x σ H,xs[i]?=some x->Pv i σ H->g x σ H λσ2 H2=>tb {D with nx:=Pv (i+1),ct:=Pv (i+1),bk:=D.nx} σ2 H2) (hd:∀σ H,Pv xs.length σ H->D.nx σ H):t5 (C9 K a) g tb D σ H:=BX Pv h0 hl hs hd
theorem dJ{lo:Int}{n:Nat}(Pv:Nat->St->Hp->Prop)(h0:Pv 0 σ H)
  (hs:∀i σ H,i<n->Pv i σ H->g (.int (lo+i)) σ H λσ2 H2=>tb {D with nx:=Pv (i+1),ct:=Pv (i+1),bk:=D.nx} σ2 H2) (hd:∀σ H,Pv n σ H->D.nx σ H):t5 (ze lo n) g tb D σ H:=yJ Pv h0 hs hd
end
end
theorem aR:bootBuiltins "len"=some (.builtin "len"):=by decide +kernel
theorem sH:bootBuiltins "list"=some (.type "list"):=by decide +kernel
theorem j_:bootBuiltins "tuple"=some (.type "tuple"):=by decide +kernel
theorem D0:bootBuiltins "int"=some (.type "int"):=by decide +kernel
theorem CI:bootBuiltins "bool"=some (.type "bool"):=by decide +kernel
theorem bP:bootBuiltins "isinstance"=some (.builtin "isinstance"):=by decide +kernel
theorem zv:bootBuiltins "all"=some (.builtin "all"):=by decide +kernel
end L2
namespace PtM
open PySem PySem.Builtin.Str PySem.StrLaws
end PtM
namespace L2
open PySem PySem.Spec PyProof.Rows
section
variable {X:Cx}{a b c d:Expr}{ta tb tc td:TE}{pos:Pos}
noncomputable def DZ(K:JT):List V->Hp->VK->Prop:=λxs H Q=>∃(p:Addr) (bs:List Bool),xs=[.ref p]/\aW K H p (bs.map V.bl)/\Q (.bl (bs.all id)) H
theorem xu:∀{bs:List Bool} {us:JX} {i:Nat} {u:Value},aY (bs.map V.bl) us->us[i]?=some u->∃k,bs[i]?=some k/\u=.bool k
 | [],_,_,_,.nil,e=>by simp at e
 |k::bs,_,0,u,.cons r _,e=>by simp at e;subst e;exact⟨k,rfl,r⟩
 |k::bs,_,i+1,u,.cons _ t,e=>by
  obtain⟨k',h1,h2⟩:=xu (i:=i) t (by simpa using e);exact⟨k',by simpa using h1,h2⟩
theorem y3(bs:List Bool):((List.range bs.length).all λi=>(bs[i]?).getD true)=bs.all id:=by
 rw[Bool.eq_iff_iff,JH,JH]
 constructor
 ·intro h x hx
  obtain⟨i,hi,e⟩:=List.getElem_of_mem hx;have q:=h i (List.mem_range.mpr hi);rw[IQ hi,Option.getD_some,e]at q;exact q
 ·intro h i hi
  have hi':=List.mem_range.mp hi;rw[IQ hi',Option.getD_some];exact h _ (I_ hi')
theorem uB(hc:X.calm=true):fb X (.builtin "all") (DZ X.K):=by
 intro pins s σ H xs us Q I r h;obtain⟨p,bs,rfl,hs,q⟩:=h;obtain⟨u,rfl,ru⟩:=r.one;cases ru;obtain⟨its,rv,pl,_⟩:=I.list hs;have hlt:p<s.heap.objs.size:=by obtain⟨_,e,_⟩:=pl.isList;exact Jr e
 have hlen:its.length=bs.length:=by rw[<- rv.length,IT]
 refine call_all_walk (wpAny_pyIter_list pl.isList ?_);refine⟨s.heap.objs.size,[s.heap.objs.size,p],[s.heap.objs.size],its.toArray.size,_,_,λi=>(bs[i]?).getD true,rfl,Walks.list (A:=X.A.in1) (I.ok.hd hc) _ p (Jk hlt) its.toArray,
  ⟨⟨_,IY _ rfl,rfl,rfl⟩,pl.isList.push _⟩,λi v s' Q' E' hP hQ=>?_,λh' tk hk=>?_⟩
 ·obtain⟨k,e,rfl⟩:=xu (i:=i) rv (by simpa using hP)
  dsimp only at hQ;rw[e,Option.getD_some]at hQ;exact wpAny_truthy_bool hQ
 ·have e:((List.range its.toArray.size).all λi=>(bs[i]?).getD true)=bs.all id:=by rw[IZ,hlen];exact y3 bs
  rw[e];exact⟨.bl _,H,I.kept (t':=tk) λb o eo=>hk b o (λhm=>by rw[IU.mp hm]at eo;exact Jx _ (Jr eo)) (IS _ eo),rfl,q⟩
end
section
variable {K:JT}{g:TG}{ti:TT}{te:TE}{σ:St}{H:Hp}{Q:List V->Hp->Prop}
theorem uH{a:Addr}{xs:List V}(Pv:Nat->List V->St->Hp->Prop)(h0:Pv 0 [] σ H)(hz:∀i acc σ H,Pv i acc σ H->acc.length<sizeLine)(hi:∀i acc σ H,Pv i acc σ H->i<=xs.length)
  (hl:∀i acc σ H,Pv i acc σ H->bc K H a xs)
  (hs:∀i x acc σ H,xs[i]?=some x->Pv i acc σ H->g x σ H λσ2 H3=>ti σ2 H3 λb H4=>if b=true then te σ2 H4 λv H5=>Pv (i+1) (acc++[v]) σ2 H5 else Pv (i+1) acc σ2 H4)
  (he:∀acc σ H,Pv xs.length acc σ H->Q acc H):f_ (C9 K a) g ti te σ H Q:=by
 exact iS (J:=C9 K a) (g:=g) (ti:=ti) (te:=te) (Q:=Q) (n:=xs.length) Pv h0 hz hi (λacc σ H w=>⟨xs,hl _ _ _ _ w,Jo _⟩)
  (λi acc σ H hlt w=>⟨xs,xs[i],hl _ _ _ _ w,IQ hlt⟩) (λi x acc σ H H2 hlt w y=>by obtain⟨rfl,hx⟩:=y;exact hs i x acc σ H2 (hx xs (hl _ _ _ _ w)) w) he
end
end L2
namespace QL
open PySem L2 bC PySem.Builtin PySem.Builtin.Str
end QL
namespace L2
open PySem PySem.Spec PyProof.Rows
section
variable {X:Cx}{K:JT}{tg:Expr}
theorem vH(hK:X.K=K):fb X (.builtin "len") (λxs H Q=>∃p ys,xs=[.ref p]/\aW K H p ys/\Q (.int ys.length) H):=hK▸aQ
theorem m6(hK:X.K=K):Da X (wF K):=hK▸kj
theorem kD(hK:X.K=K):Da X (wq K):=hK▸zX
theorem AG(hK:X.K=K):Eo X "str.join" (wM K):=hK▸mX
end
end L2
namespace PySem
open Sem (wp)
def TrD(cp:Value->Prop)(h base:Heap)(e:Addr)(cls:Value)(od:Ka)(fl:Value):Prop:=
 ∃oe vs T oT ts,h.get? e=some oe/\oe.cls=cls/\oe.dict=od/\oe.data=.fields vs/\vs[1]?=some (.ref T)/\base.get? T=none/\T≠e/\h.get? T=some oT/\oT.data=.fields ts/\ts[3]?=some fl/\∃cx,vs[2]?=some cx/\cp cx
structure eu(cp:Value->Prop)(base:Heap)(l:List Env)(e:Addr)(cls:Value)(od:Ka)(fl:Value)(h:Heap):Prop where
 st:base.StaysIn h
 new:base.get? e=none
 ff:h.FunFrames base l
 tr:TrD cp h base e cls od fl
noncomputable abbrev EH:=eu (λv=>v=.none)
theorem eu.there{cp:Value->Prop}{base h:Heap}{l:List Env}{e:Addr}{cls fl:Value}{od:Ka}(x:eu cp base l e cls od fl h):∃oe vs,h.get? e=some oe/\oe.cls=cls/\oe.dict=od/\oe.data=.fields vs:=by
 obtain⟨oe,vs,_,_,_,a,b,c,d,_⟩:=x.tr;exact⟨oe,vs,a,b,c,d⟩
theorem hU(o:Obj)(f:Array Value->Array Value):(Obj.mapFields f o).dict=o.dict:=by unfold Obj.mapFields;split<;>rfl
section
variable {cp:Value->Prop}{M:Model}{A:J8}{E:JS}{s:JW}{base:Heap}{env:Env}{outer:List Env}{L e:Addr}{Q:Unit->Shared->Prop}
theorem gz{cls fl:Value}{od:Ka}{l:List Env}(x:eu cp base l e cls od fl s.heap)(h:∀h',eu cp base l e cls od .none h'->s.heap.UpToSlots h'->Q () {s with heap:=h' }):wpAny M A (setFlight (.ref e) none) Q E s:=by
 obtain⟨oe,vs,T,oT,ts,he,hc,ho,hd,h1,hnT,hTe,hT,hdT,h3,hcx⟩:=x.tr;have hsz:3<ts.size:=(Array.getElem?_eq_some_iff.mp h3).1;have oth:∀b,b≠T->(s.heap.update T (Obj.mapFields (·.setIfInBounds 3 Value.none))).get? b=s.heap.get? b:=λb hb=>IX _ _ (Ne.symm hb);have nrec:∀b o,s.heap.get? b=some o->(∀vs,o.data≠.fields vs)->b≠T:=λb o hb hnf q=>by rw[q,hT]at hb;injection hb with hb;subst hb;exact hnf ts hdT
 unfold setFlight;refine wpAny_bind (wpAny_field he hd h1 ?_);rw[if_pos (show(Value.ref T != Value.none)=true from by simp)];refine wpAny_setField hT hdT hsz (h _ ⟨λb o hb=>(oth b λq=>by rw[q,hnT]at hb;cases hb).trans (x.st b o hb),x.new,x.ff.of_keeps λb o hb hnf=>⟨o,(oth b (nrec b o hb hnf)).trans hb,rfl⟩,?_⟩ λb o hb hnf=>⟨o.slots,(oth b (nrec b o hb hnf)).trans hb⟩);exact⟨oe,vs,T,_,_,(oth e (Ne.symm hTe)).trans he,hc,ho,hd,h1,hnT,hTe,Jb _ hT (Obj.isFreed_of_fields (Obj.data_mapFields hdT _)),Obj.data_mapFields hdT _,by simp[hsz],hcx⟩
theorem zO{oe:Obj}{vs:Array Value}{head:Value}{hadNext:Bool}(hfr:A.frames=some (env::outer))(hl:s.heap.FunFrames base (env::outer))(hf:env.frame=some L)
  (he:s.heap.get? e=some oe) (hkb:base.StaysIn s.heap) (hen:base.get? e=none) (hd:oe.data=.fields vs) (hsz:1<vs.size) (hcx:∃cx,vs[2]?=some cx/\cp cx)
  (h:∀h',eu cp base (env::outer) e oe.cls oe.dict (rawInt L) h'->s.heap.UpToSlots h'->Q () {s with heap:=h' }) :
  wpAny M A (do let a <- frameOf env;let pl <- entryPlaceOf L hadNext;let b <- EntryCells.newEntry head a .none (rawInt L) .none pl;setField (.ref e) 1 b) Q E s:=by
 have hene:e∉(env::outer).filterMap (·.frame):=λhm=>by
  obtain⟨_,o,ho,hnf⟩:=hl.mem hm;rw[he]at ho;injection ho with ho;subst ho;exact hnf vs hd
 refine wpAny_bind (wpAny_frameOf_fun hfr hl hf λh₁ hs₁=>?_);refine wpAny_bind (wpAny_entryPlaceOf λpl hpl=>?_);unfold EntryCells.newEntry newFields;refine wpAny_bind (wpAny_newObj_type ?_ (hpl.sizeOk5 _ _ _ _ _));have he₁:h₁.get? e=some oe:=(hs₁.2.1 e hene).trans he;have kb₁:base.StaysIn h₁:=λb o hb=>(hs₁.2.1 b λhm=>by rw[(hl.mem hm).1]at hb;cases hb).trans (hkb b o hb);generalize hT0:({cls:=.type "traceback",dict:=none,data:=.fields ([head,.ref L,.none,rawInt L,.none]++(if pl.isEmpty then List.replicate 6 Value.none else pl)).toArray}:Obj)=To;have dTo:To.data=.fields ([head,.ref L,.none,rawInt L,.none]++(if pl.isEmpty then List.replicate 6 Value.none else pl)).toArray:=by rw[<- hT0]
 have he₂:=IS (h:=h₁) To he₁;have hTe:h₁.objs.size≠e:=Nat.ne_of_gt (Jr he₁);have keep:∀b o,b≠e->h₁.get? b=some o->((h₁.push To).update e (Obj.mapFields (·.setIfInBounds 1 (Value.ref h₁.objs.size)))).get? b=some o:=λb o hbe hb=>by
  rw[IX _ _ (Ne.symm hbe)];exact IS _ hb
 have nrec:∀b o,s.heap.get? b=some o->(∀vs,o.data≠.fields vs)->b≠e:=λb o hb hnf q=>by
  rw[q,he]at hb
  injection hb with hb
  subst hb;exact hnf vs hd
 refine wpAny_setField he₂ hd hsz (h _ ?_ ?_)
 ·have hd₃:=Obj.data_mapFields hd (·.setIfInBounds 1 (Value.ref h₁.objs.size))
  refine⟨λb o hb=>keep b o (λq=>by rw[q,hen]at hb;cases hb) (kb₁ b o hb),hen,hl.of_keeps λb o hb hnf=>?_,?_⟩
  ·obtain⟨sl,hs⟩:=hs₁.2.2 b o hb
   exact⟨_,keep b _ (nrec b o hb hnf) hs,rfl⟩
  ·refine⟨_,_,h₁.objs.size,To,_,Jb _ he₂ (Obj.isFreed_of_fields hd₃),Obj.cls_mapFields _ _,hU _ _,hd₃,by simp[hsz],kb₁.fresh,hTe,?_,dTo,?_,?_⟩
   ·rw[IX _ _ (Ne.symm hTe)]
    refine IY _ ?_;rw[<- hT0];rfl
   ·first | (simp;done) | (rcases hpl with rfl | ⟨_,_,_,_,_,_,_,rfl⟩<;>simp)
   ·obtain⟨cx,h2,hp⟩:=hcx
    exact⟨cx,by rw[Array.getElem?_setIfInBounds_ne nofun];exact h2,hp⟩
 ·intro b o hb hnf
  obtain⟨sl,hs⟩:=hs₁.2.2 b o hb;exact⟨sl,keep b _ (nrec b o hb hnf) hs⟩
theorem Ab{cls:Value}{od:Ka}(hfr:A.frames=some (env::outer))(hf:env.frame=some L)(x:eu cp base (env::outer) e cls od .none s.heap)
  (h:∀h',eu cp base (env::outer) e cls od (rawInt L) h'->s.heap.UpToSlots h'->Q () {s with heap:=h' }):wpAny M A (noteFrame (.ref e) env) Q E s:=by
 obtain⟨oe,vs,T,oT,ts,he,hc,ho,hd,h1,hnT,hTe,hT,hdT,h3,hcx⟩:=x.tr;subst hc ho;unfold noteFrame;simp only[hf];refine wpAny_bind (wpAny_field he hd h1 ?_);rw[if_pos (show(Value.ref T != Value.none)=true from by simp)];refine wpAny_bind (wpAny_field hT hdT h3 ?_);rw[if_neg (show ¬ ((Value.none==rawInt L)=true) from by simp[rawInt])];refine wpAny_bind (wpAny_setField hT hdT (Array.getElem?_eq_some_iff.mp h3).1 ?_);have oth:∀b,b≠T->(s.heap.update T (Obj.mapFields (·.setIfInBounds 3 Value.none))).get? b=s.heap.get? b:=λb hb=>IX _ _ (Ne.symm hb);have nrec:∀b o,s.heap.get? b=some o->(∀vs,o.data≠.fields vs)->b≠T:=λb o hb hnf q=>by rw[q,hT]at hb;injection hb with hb;subst hb;exact hnf ts hdT
 refine zO hfr (x.ff.of_keeps λb o hb hnf=>⟨o,(oth b (nrec b o hb hnf)).trans hb,rfl⟩) hf ((oth e (Ne.symm hTe)).trans he) (λb o hb=>(oth b λq=>by rw[q,hnT]at hb;cases hb).trans (x.st b o hb)) x.new hd (Array.getElem?_eq_some_iff.mp h1).1 hcx λh' y up=>h h' y λb o hb hnf=>up b o ((oth b (nrec b o hb hnf)).trans hb) hnf
theorem Ao{oe:Obj}{vs:Array Value}(hfr:A.frames=some (env::outer))(hl:s.heap.FunFrames base (env::outer))(hf:env.frame=some L)(he:s.heap.get? e=some oe)(hkb:base.StaysIn s.heap)(hen:base.get? e=none)(hd:oe.data=.fields vs)(h1:vs[1]?=some .none)(hcx:∃cx,vs[2]?=some cx/\cp cx)
  (h:∀h',eu cp base (env::outer) e oe.cls oe.dict (rawInt L) h'->s.heap.UpToSlots h'->Q () {s with heap:=h' }):wpAny M A (noteFrame (.ref e) env) Q E s:=by
 unfold noteFrame;simp only[hf];refine wpAny_bind (wpAny_field he hd h1 ?_);rw[if_neg nofun];exact zO hfr hl hf he hkb hen hd (Array.getElem?_eq_some_iff.mp h1).1 hcx h
theorem eu.drop{cls fl:Value}{od:Ka}{h:Heap}(x:eu cp base (env::outer) e cls od fl h):eu cp base outer e cls od fl h:=⟨x.st,x.new,x.ff.2.2,x.tr⟩
theorem Ap{cls:Value}{od:Ka}(hfr:A.frames=some (env::outer))(hf:env.frame=some L)(x:eu cp base (env::outer) e cls od .none s.heap)
  (h:∀h',eu cp base outer e cls od .none h'->s.heap.UpToSlots h'->Q () {s with heap:=h' }):wpAny M A (leaving env (.ref e)) Q E s:=by
 unfold leaving;exact wpAny_bind (Ab hfr hf x λh1 y1 u1=>gz y1 λh2 y2 u2=>h h2 y2.drop (u1.trans u2))
theorem xg{oe:Obj}{vs:Array Value}(hfr:A.frames=some (env::outer))(hl:s.heap.FunFrames base (env::outer))(hf:env.frame=some L)(he:s.heap.get? e=some oe)(hkb:base.StaysIn s.heap)(hen:base.get? e=none)(hd:oe.data=.fields vs)(h1:vs[1]?=some .none)(hcx:∃cx,vs[2]?=some cx/\cp cx)
  (h:∀h',eu cp base outer e oe.cls oe.dict .none h'->s.heap.UpToSlots h'->Q () {s with heap:=h' }):wpAny M A (leaving env (.ref e)) Q E s:=by
 unfold leaving;exact wpAny_bind (Ao hfr hl hf he hkb hen hd h1 hcx λh1 y1 u1=>gz y1 λh2 y2 u2=>h h2 y2.drop (u1.trans u2))
end
end PySem
namespace L2
open PySem PySem.Spec PyProof.Rows
structure Fly0(P:J3)(w:J9)(outer:List Env)(H:Hp)(s:JW)(B:Heap)(H':Hp)(s':JW):Prop where
 st:B.StaysIn s'.heap
 ff:s'.heap.FunFrames B outer
 un:Un (gj outer) [] H H' s.heap s'.heap
 hok:jk P w H' s'.heap
 cov:∀b o,H' b=some o->∃ob,B.get? b=some ob
 old:∀b o,s.heap.get? b=some o->b∉gj outer->∃o',B.get? b=some o'
 os:s'.os=s.os
 bare:AllBare s'.gens
structure EA(cp:Value->Prop)(P:J3)(w:J9)(outer:List Env)(H:Hp)(s:JW)(B:Heap)(H':Hp)(s':JW)(ea:Addr)(cls:Value)(od:Ka):Prop extends Fly0 P w outer H s B H' s' where
 fl:eu cp B outer ea cls od .none s'.heap
noncomputable def Dy(cp:Value->Prop)(P:J3)(w:J9):ia:=λouter H s E e s'=>∃ea cls od B H',e=.ref ea/\EA cp P w outer H s B H' s' ea cls od/\H' ea=none/\E cls od H'
noncomputable abbrev dz(P:J3)(w:J9):ia:=Dy (λv=>v=.none) P w
theorem ck{cp:Value->Prop}{P:J3}{w:J9}{X:Cx}:cu (Dy cp P w) X (λ_ _ _=>False):=λ_ _ _ _ _ _ _ h=>by
 obtain⟨_,_,_,_,_,_,_,_,f⟩:=h;exact f.elim
theorem lx{P:J3}{w:J9}{H:Hp}{B h h':Heap}(ok:jk P w H h)(cov:∀b o,H b=some o->∃ob,B.get? b=some ob)(k:B.StaysIn h)(k':B.StaysIn h'):jk P w H h':=λa o e=>
 (ok a o e).stay (λb u hb q=>by
  have hb':∃ob,B.get? b=some ob:=by
   rcases hb with rfl | hb
   ·exact cov _ _ e
   ·exact cov _ _ hb
  obtain⟨ob,hB⟩:=hb';have:=k b ob hB;rw[q]at this;cases this;exact k' b _ hB) (λ_ q=>q) λ_ _ q=>q
theorem bt.there{P:J3}{w:J9}{H:Hp}{h:Heap}{a:Addr}{o:HO}(x:bt P w H h a o):∃ob,h.get? a=some ob:=by
 cases o with
 |lst xs=>obtain⟨_,_,_,_,e⟩:=x;exact⟨_,e⟩
 |tup xs=>obtain⟨_,_,_,ob,e,_⟩:=x;exact⟨_,e⟩
 |dK kvs=>obtain⟨_,_,_,_,o,_,_,e,_⟩:=x;exact⟨_,e⟩
 |dT kvs=>obtain⟨_,_,_,_,o,_,_,e,_⟩:=x;exact⟨_,e⟩
 |set S n=>obtain⟨o,_,_,_,e,_⟩:=x;exact⟨_,e⟩
 |ins C dx fs=>obtain⟨_,_,_,e,_⟩:=x;exact⟨_,e⟩
 |own y=>exact x
 |xd fs=>obtain⟨_,⟨_,_,_,e,_⟩,_⟩:=x;exact⟨_,e⟩
 |rng lo hi=>obtain⟨_,_,_,e⟩:=x;exact⟨_,e⟩
 |frz ob u=>obtain⟨e,_⟩:=x;exact⟨_,e⟩
 |tbl ps=>exact⟨_,show h.get? a=some _ from x⟩
 |met f y=>exact⟨_,show h.get? a=some _ from x⟩
 |ext φ=>obtain⟨_,e,_⟩:=x;exact e
section
variable {P:J3}{w:J9}{K:JT}{mg:JZ}{base:Heap}{N:J4}{qual:Str}{scope:Scope}{f:Addr}{cd:Value}{A:J8}{outer:List Env}{s:JW}{H:Hp}{E E1:XK}{CX:ia}
theorem Fly0.up{cp:Value->Prop}{X:Cx}{pins:JU}{σ:St}{H1 H':Hp}{s1 s':JW}{B h':Heap}{ea:Addr}{cls:Value}{od:Ka}(I:Inv X pins σ H1 s1)(hex:X.ex=[])(hst:X.stack=X.env::X.outer)(hfr:X.env.frame=some X.env.locals)(hP:X.prog=P)(hw:X.w=w)
  (x:Fly0 P w X.stack H1 s1 B H' s') (fl2:eu cp B X.outer ea cls od .none h') (up:s'.heap.UpToSlots h') :
  EA cp P w X.outer X.H₀ X.s₀ B H' {s' with heap:=h' } ea cls od:=by
 have nex:∀b,b∉X.ex:=λb=>by rw[hex];simp
 have nfr:∀b o,X.s₀.heap.get? b=some o->b∉X.fs->b∉gj X.stack:=λb o e hb hm=>by
  rw[hst]at hm;unfold gj at hm;rw[List.filterMap_cons,hfr]at hm;rcases Jg.mp hm with z | z
  ·exact absurd (Jr e) (by rw[z];exact Nat.not_lt.mpr I.ok.above)
  ·exact hb z
 have sub:∀b,b∈X.fs->b∈gj X.stack:=λb hb=>by
  rw[hst];unfold gj;rw[List.filterMap_cons,hfr];exact Jh _ hb
 have kB:∀b o,X.s₀.heap.get? b=some o->b∉X.fs->∃o',B.get? b=some o':=λb o e hb=>by
  obtain⟨o1,e1⟩:=I.base.there b o e (nex b);exact x.old b o1 e1 (nfr b o e hb)
 have fr0:∀b∈X.fs,X.H₀ b=none:=I.ok.frf;have sl:∀b o,X.s₀.heap.get? b=some o->X.H₀ b=none->b∈X.fs->∃sl,h'.get? b=some {o with slots:=sl}:=λb o e hn hb=>by
  obtain⟨sl1,e1⟩:=I.base.slot b o e hn hb (nex b);have n1:=I.base.free b o e hn (nex b);obtain⟨sl2,e2⟩:=x.un.slot b _ e1 n1 (sub b hb) (by simp);obtain⟨_,o3,e3,nf⟩:=x.ff.mem (sub b hb);rw[e2]at e3;cases e3;obtain⟨sl3,e4⟩:=up b _ e2 nf;exact⟨sl3,e4⟩
 refine⟨⟨fl2.st,fl2.ff,⟨λb o e hn hb _=>?_,λb o e hn hb _=>sl b o e hn hb,λb o e hn _=>?_,λb o e _=>?_,λb xs q=>x.un.tups b xs (I.base.tups b xs q),λb o u q=>x.un.frzs b o u (I.base.frzs b o u q),λb ps q=>?_⟩,lx x.hok x.cov x.st fl2.st,x.cov,kB,x.os.trans I.os,x.bare⟩,fl2⟩
 ·have e1:=I.base.keep b o e hn hb (nex b)
  have n1:=I.base.free b o e hn (nex b);have e2:=x.un.keep b o e1 n1 (nfr b o e hb) (by simp);obtain⟨o',eB⟩:=kB b o e hb;have:=x.st b o' eB;rw[e2]at this;cases this;exact fl2.st b _ eB
 ·obtain⟨o1,e1⟩:=I.base.there b o e (nex b)
  exact x.un.free b o1 e1 (I.base.free b o e hn (nex b)) (by simp)
 ·by_cases hb:b∈X.fs
  ·obtain⟨z,ez⟩:=sl b o e (fr0 b hb) hb
   exact⟨_,ez⟩
  ·obtain⟨o',eB⟩:=kB b o e hb
   exact⟨_,fl2.st b _ eB⟩
 ·obtain⟨m1,e1⟩:=I.base.tbls b ps q
  obtain⟨m2,e2⟩:=x.un.tbls b _ e1;exact⟨m1++m2,by rw[e2,Array.append_assoc]⟩
theorem c_{cp:Value->Prop}(hE:∀c d H',E1 c d H'->E c d H'):cu (Dy cp P w) (cW (Dy cp P w) P w K mg base N qual scope f cd A outer s H E) E1:=by
 intro pins σ H1 s1 e s' I x;obtain⟨ea,cls,od,B,H',rfl,fly,hn,q⟩:=x;refine Ap I.ok.frames rfl fly.fl λh' fl2 up=>?_;exact⟨ea,cls,od,B,H',rfl,Fly0.up I rfl rfl rfl rfl rfl fly.toFly0 fl2 up,hn,hE _ _ _ q⟩
def AL(X:Cx)(E:XK):Prop:=∀(pins:JU) (σ:St) (H:Hp) (s:JW) (h':Heap) (e:Addr) (cls:Value) (vs:JX),Inv X pins σ H s->Heap.MadeExcOf s.heap h' e cls vs->E cls none H->X.xe (.ref e) {s with heap:=h' }
theorem fW(hE:∀c d H',E1 c d H'->E c d H'):AL (cW (dz P w) P w K mg base N qual scope f cd A outer s H E) E1:=by
 intro pins σ H1 s1 h1 e cls vs I x q;have hin:∀env∈(cW (dz P w) P w K mg base N qual scope f cd A outer s H E).stack,∀b,env.frame=some b->b∈gj (cW (dz P w) P w K mg base N qual scope f cd A outer s H E).stack:=λenv he b hb=>List.mem_filterMap.mpr ⟨env,he,hb⟩;obtain⟨t0,he0,ht0,htt⟩:=x.there;have nt:∀b,s1.heap.get? b=none->H1 b=none:=λb hb=>by
  cases z:H1 b with
  |none=>rfl
  |some o=>
   obtain⟨ob,hob⟩:=(I.hok b o z).there;rw[hb]at hob;cases hob
 have hff:=PySem.W.funFrames_hide I.stack hin;have fly0:Fly0 P w (cW (dz P w) P w K mg base N qual scope f cd A outer s H E).stack H1 s1 (PySem.W.hideAll s1.heap (gj (cW (dz P w) P w K mg base N qual scope f cd A outer s H E).stack)) H1 {s1 with heap:=h1}:=
  ⟨λb o e=>x.keeps b o (PySem.W.of_hideAll _ e),hff.of_keeps λb o e _=>⟨o,x.keeps b o e,rfl⟩,Un.kept x.keeps,I.hok.kept x.keeps,λb o z=>by
   obtain⟨ob,hob⟩:=(I.hok b o z).there;exact⟨ob,PySem.W.hideAll_get _ hob λhm=>by rw[I.stkFree b hm]at z;cases z⟩,λb o e hm=>⟨o,PySem.W.hideAll_get _ e hm⟩,rfl,I.bare⟩
 have newB:(PySem.W.hideAll s1.heap (gj (cW (dz P w) P w K mg base N qual scope f cd A outer s H E).stack)).get? e=none:=by
  cases z:(PySem.W.hideAll s1.heap (gj (cW (dz P w) P w K mg base N qual scope f cd A outer s H E).stack)).get? e with
  |none=>rfl
  |some o=>have:=PySem.W.of_hideAll _ z;rw[x.new]at this;cases this
 refine xg (cp:=λv=>v=.none) (s:={s1 with heap:=h1}) I.ok.frames fly0.ff rfl he0 fly0.st newB rfl rfl ⟨_,rfl,rfl⟩ λh' fl2 up=>?_;exact⟨e,cls,none,_,H1,rfl,Fly0.up I rfl rfl rfl rfl rfl fly0 fl2 up,nt e x.new,hE _ _ _ q⟩
end
structure nc(K:JT)(C:Addr)(bmB:JX)(newId:String):Prop where
 exc:PySem.W.excIn K C bmB newId=true
theorem nc.obj{K:JT}{C:Addr}{bmB:JX}{newId:String}{h:Heap}(c:nc K C bmB newId)(X:K.In h):∃bm N nm q bs hdct sn sub ab col dd k0 k1 k2 k3 k5 mN,
  h.get? C=some (excClassObj nm q C N bs bm hdct sn sub ab col dd k0 k1 k2 k3 k5 newId)/\h.Ns N mN/\mN "__init__"=none/\OwnTail h bmB bm/\∃dd' cd sl,K.lookup C=some ⟨.type "type",dd',.cls cd,sl⟩/\cd.mro=.ref C::bm:=by
 have q:=c.exc;unfold PySem.W.excIn at q;cases hl:K.lookup C with
 |none=>rw[hl]at q;cases q
 |some ob=>
  rw[hl]at q
  split at q
  ·rename_i dd cd sl e
   cases e
   split at q
   ·rename_i C' bm k0 k1 k2 k3 n k5 hm hs
    simp only[Bool.and_eq_true,beq_iff_eq,Bool.not_eq_true']at q;obtain⟨⟨⟨⟨⟨rfl,rfl⟩,hdel⟩,ht⟩,hok⟩,hni⟩:=q;have ho:=X _ _ hl;have hsl:sl=#[k0,k1,k2,k3,some (.builtin n),k5]:=Array.toList_inj.mp hs;subst hsl;obtain⟨nm,bs,mro,ns,qn,hd,sn,sub,ab,col,del⟩:=cd;dsimp only at hm hdel hok hni ho;subst hm hdel;exact⟨bm,ns,nm,qn,bs,hd,sn,sub,ab,col,dd,k0,k1,k2,k3,k5,_,ho,.of_isNs (PySem.W.isNs_of_in X hok),PySem.W.nsMap_none_of_in X hok hni,PySem.W.tail_of_in X ht,dd,_,_,rfl,rfl⟩
   ·cases q
  ·cases q
section
variable {X:Cx}{x:Str}{np cpos pos:Pos}{e₀:Expr}{bv:Kb}{t:TA}{C:Addr}{B Bn newId nid initId inN:String}{bm bmN:JX}{E:XK}
noncomputable def sO(C:Addr)(E:XK)(t:TA):TS:=λ_ σ H=>t σ H λvs H1=>vs.length<=sizeLine/\E (.ref C) none H1
theorem Bc(c:nc X.K C bm newId)(Fn:ExcBaseFacts Bn newId inN bmN)(hBn:bm.contains (.type Bn)=true)(FB:ExcBaseFacts B nid initId bm)(hc:X.calm=true)(hg:Gl X x)(hm:X.mg x=some (.ref C))(hx:AL X E)(ha:PA X (e₀::bv) t)
  (hd:autoParam ((x==("__debug__":Str))=false) zz2._auto_1)
  (he:autoParam (starEach (e₀::bv) X.env=(false,eval e₀ X.env)::starEach bv X.env) zz0._auto_1) (hpl:autoParam ((backTo cpos (starEach bv X.env)).any (·.1)=false) zz0._auto_1) :
  PS X (.Raise (some (.Call (.Name x np) (e₀::bv) [] cpos)) none pos) (sO C E t):=by
 intro pins s σ H D I h;obtain⟨tl,N,nm,q,bs,hdct,sn,sub,ab,col,dd,k0,k1,k2,k3,k5,mN,hC,hN,hni,T,_⟩:=c.obj I.mod.kin;refine wpAny_Raise_call_subU (C:=C) (nm:=nm) (q:=q) (N:=N) (bs:=bs) (bm:=tl) (hdct:=hdct) (sn:=sn) (sub:=sub) (ab:=ab) (col:=col) (dd:=dd) (k0:=k0) (k1:=k1) (k2:=k2) (k3:=k3) (k5:=k5)
  Fn hBn FB (mN:=mN) (T.hasType FB.hasBase) (I.ok.hd hc) (by rw[he];show(false||(backTo cpos (starEach bv X.env)).any (·.1))=false;rw[hpl];rfl) hni (dW I hg hm ⟨rfl,?_⟩ hd)
 rw[he];have ha':=ha cpos pins s σ H _ I h;rw[he]at ha';exact Calls.evalArgs_plain (wpAny_mono ha' (λus s₂ ⟨vs,H1,I1,r1,z,q1⟩=>⟨rfl,by rw[<- r1.length];exact z,I1.bk _ _ hC,hN.keeps I1.bk,T.keeps I1.bk,λh' e hx'=>hx pins σ H1 s₂ h' e _ _ I1 hx' q1⟩) λ_ _ y=>y)
end
noncomputable abbrev TX:=St->Hp->VK->XK->Prop
def PX(CX:ia)(X:Cx)(e:Expr)(t:TX):Prop:=
 ∀(pins:JU) (s:JW) (σ:St) (H:Hp) (Q:VK) (E:XK) (Ex:JS),Inv X pins σ H s->t σ H Q E->(∀H1 s1 ev s',Inv X pins σ H1 s1->CX X.stack H1 s1 E ev s'->Ex ev s') ->
  wpAny (model X.prog X.w) X.A (eval e X.env) (EP X pins σ Q) Ex s
section
variable {X:Cx}{CX:ia}{k:Nat}{ps:J4}{sp:Sp}{x:Str}{p pos:Pos}{e:Expr}{es:Kb}{t:TA}
noncomputable def wB(sp:Sp)(t:TA):TX:=λσ H Q E=>t σ H λvs H1=>sp vs H1 Q E
theorem D7(c:cY X.prog X.w X.K X.mg X.base CX k x ps sp)(hr:b_ k X.A)(hg:Gl X x)(ha:PA X.nox (e::es) t)(hdb:autoParam ((x==("__debug__":Str))=false) zz2._auto_1)
  (hst:autoParam (starEach (e::es) X.env=(false,eval e X.env)::starEach es X.env) zz0._auto_1) (hpl:autoParam ((backTo pos (starEach es X.env)).any (·.1)=false) zz0._auto_1):PX CX X (.Call (.Name x p) (e::es) [] pos) (wB sp t):=by
 intro pins s σ H Q E Ex I h hEx;obtain⟨f,fd,F,hm,hk,hb⟩:=c.ex;refine wpAny_Call_Name_kw (dW I hg hm ?_ hdb);refine PySem.W.callWith_K (h₀:=X.base) I.ok.mod.kin hk (wpAny_mono (ha pos pins s σ H _ (I.wish _) h) (λus s1 ⟨vs,H1,I1,r,q⟩=>⟨I1.kIn,?_⟩) λ_ _ f=>f.elim) hst hpl;have I2:Inv X pins σ H1 s1:=I1.unwish;have hl:(us++[]).length=ps.length:=by rw[Jz,<- r.length];exact F.len _ _ _ _ q
 have hb1:=hb s1 us I2.kIn hl;rw[Jz]at hb1;refine wpAny_call (codeAny_mono (F.run X.A X.stack s1 H1 ⟨us,[]⟩ us vs Q E hr I2.env0 hb1 r q) λrr s' hq=>?_);cases rr with
 |error ev=>exact hEx H1 s1 ev s' I2 hq
 |ok fl=>
  cases fl with
  |ret u=>exact I2.after hq
  |next=>exact False.elim hq
  |brk=>exact False.elim hq
  |cont=>exact False.elim hq
end
theorem Fly0.un2{P:J3}{w:J9}{outer:List Env}{H H':Hp}{s s':JW}{B h6:Heap}(x:Fly0 P w outer H s B H' s')(k6:B.StaysIn h6)(up:s'.heap.UpToSlots h6)(fr0:∀b∈gj outer,H b=none):Un (gj outer) [] H H' s.heap h6:=by
 have sl:∀b o,s.heap.get? b=some o->H b=none->b∈gj outer->∃sl,h6.get? b=some {o with slots:=sl}:=λb o e hn hb=>by
  obtain⟨sl2,e2⟩:=x.un.slot b _ e hn hb (by simp);obtain⟨_,o3,e3,nf⟩:=x.ff.mem hb;rw[e2]at e3;cases e3;obtain⟨sl3,e4⟩:=up b _ e2 nf;exact⟨sl3,e4⟩
 refine⟨λb o e hn hb _=>?_,λb o e hn hb _=>sl b o e hn hb,λb o e hn _=>x.un.free b o e hn (by simp),λb o e _=>?_,x.un.tups,x.un.frzs,x.un.tbls⟩
 ·obtain⟨o',eB⟩:=x.old b o e hb
  have:=x.st b o' eB;rw[x.un.keep b o e hn hb (by simp)]at this;cases this;exact k6 b _ eB
 ·by_cases hb:b∈gj outer
  ·obtain⟨z,ez⟩:=sl b o e (fr0 b hb) hb
   exact⟨_,ez⟩
  ·obtain⟨o',eB⟩:=x.old b o e hb
   exact⟨_,k6 b _ eB⟩
def CT(ea:Addr)(cls:Value)(od:Ka)(h:Heap):Prop:=∃o vs,h.get? ea=some o/\o.cls=cls/\o.dict=od/\o.data=.fields vs
noncomputable abbrev xo(ea:Addr)(cls:Value)(od:Ka):HO:=.ext (CT ea cls od)
theorem Inv.caught{cp:Value->Prop}{X:Cx}{pins:JU}{σ:St}{H H':Hp}{s s':JW}{B h6:Heap}{ea:Addr}{cls:Value}{od:Ka}(I:Inv X pins σ H s)(x:Fly0 X.prog X.w X.stack H s B H' s')(fl:eu cp B X.stack ea cls od .none h6)(up:s'.heap.UpToSlots h6)(hn:H' ea=none) :
  Inv X pins σ (aC H' ea (xo ea cls od)) {s' with heap:=h6}:=by
 obtain⟨oe,vs,he,hc,hod,hd⟩:=fl.there;have newB:B.get? ea=none:=fl.new;have nfr:ea∉gj X.stack:=λhm=>by
  obtain⟨_,o,ho,nf⟩:=fl.ff.mem hm;rw[he]at ho;cases ho;exact nf _ hd
 have nold:s.heap.get? ea=none:=by
  cases z:s.heap.get? ea with
  |none=>rfl
  |some o=>
   obtain⟨o',eB⟩:=x.old ea o z nfr;rw[newB]at eB;cases eB
 have u:=x.un2 fl.st up I.stkFree;have ok6:=lx x.hok x.cov x.st fl.st;have nq:∀b o,H' b=some o->b≠ea:=λb o e z=>by rw[z,hn]at e;cases e
 refine I.call' (ch:=[]) x.os ⟨u.keep,u.slot,λb o e n hx=>?_,u.there,λb xs q=>?_,λb o y q=>?_,λb qs q=>?_⟩ (λb o e=>?_) x.bare (λb z=>absurd z (by simp))
 ·have nb:b≠ea:=λz=>by rw[z,nold]at e;cases e
  rw[aj nb];exact u.free b o e n hx
 ·have q':=u.tups b xs q
  rw[aj (nq _ _ q')];exact q'
 ·have q':=u.frzs b o y q
  rw[aj (nq _ _ q')];exact q'
 ·obtain⟨more,q'⟩:=u.tbls b qs q
  exact⟨more,by rw[aj (nq _ _ q')];exact q'⟩
 ·by_cases hb:b=ea
  ·subst hb
   rw[ac]at e;cases e;exact⟨⟨oe,vs,he,hc,hod,hd⟩,⟨oe,he⟩,λh1 h2 ⟨o,ws,e1,e2,e3,e4⟩ k=>⟨o,ws,k o e1,e2,e3,e4⟩⟩
  ·rw[aj hb]at e
   exact(ok6 b o e).stay (λ_ _ _ q=>q) (λc q=>by rw[aj (nq _ _ q)];exact q) λc xs q=>by rw[aj (nq _ _ q)];exact q
end L2
namespace PySem
open Sem (wp)
section
variable {M:Model}{A:J8}{E:JS}
variable {nm q nm' q':Str}{C N D N':Addr}{bs bm bs' bm':JX}{hdct hdct':Bool}{sn sn':J4}{sub sub':JX}{ab ab':Bool}{col col':Option Bool}{dd dd':Ka}{k0 k1 k2 k3 k5 k0' k1' k2' k3' k5':Option Value}{newId newId':String}
theorem fY{h:Heap}{g:Array GenState}{d:Drawn}{t:Nat}{os:OsState}{e:Addr}{oe:Obj}{Q:Bool->Shared->Prop}
  (hC:h.get? C=some (excClassObj nm q C N bs bm hdct sn sub ab col dd k0 k1 k2 k3 k5 newId)) (hD:h.get? D=some (excClassObj nm' q' D N' bs' bm' hdct' sn' sub' ab' col' dd' k0' k1' k2' k3' k5' newId')) (he:h.get? e=some oe) (hcls:oe.cls=.ref C)
  (hbase:bm'.contains (.type "BaseException")=true) (hsub:(Value.ref C::bm).contains (.ref D)=true)
  (hq:Q true ⟨h,g,d,t,os⟩):wpAny M A (excMatches (.ref e) (.ref D)) Q E ⟨h,g,d,t,os⟩:=by
 have hcB:(Value.ref D::bm').contains (.type "BaseException")=true:=by rw[List.contains_cons,hbase,Bool.or_true]
 have f:=tc_notTuple;unfold excMatches
 repeat (first | (with_reducible refine wpAny_loadPart_at he ?_;rw[hcls]) | with_reducible refine wpAny_loadPart_at hD ?_ | (with_reducible refine wpAny_isSubtype_exc hD ?_;rw[hcB]) | (with_reducible refine wpAny_isSubtype_exc hC ?_;rw[hsub]) | wp_step)
 exact hq
end
end PySem
namespace L2
open PySem PySem.Spec PyProof.Rows
section
variable {X:Cx}{pins:JU}{σ:St}{H:Hp}{s:JW}
theorem iO{M:Model}{A:J8}{E:JS}{i:Nat}{x:Str}{v:V}{pos:Pos}{Q:Unit->Shared->Prop}(I:Inv X pins σ H s)(hN:X.N.Nodup)(hi:X.N[i]?=some x)(hk:X.env.kindOf x=some .local)
  (h:∀s',Inv X pins (σ.set i none) H s'->Q () s'):wpAny M A (do bindName X.env x .none;unbindBehindTheSuite X.env x pos) Q E s:=by
 have hloc:X.env.scope.names.lookup x=some .local:=hk;refine wpAny_bind (wpAny_bindName (ku (v:=.non) I hN hi (.inl hloc) rfl (λs1 I1=>?_) (.inr hloc)));unfold unbindBehindTheSuite;have hiσ:i<σ.length:=by rw[I.len];exact(IR.mp hi).1
 obtain⟨m,hn,hl⟩:=id I1.loc;obtain⟨u,ru,lk⟩:=hl i x .non hi (JA hiσ) (.inl hloc);have hm:m x=some u:=by
  rcases lk with⟨_,e⟩ | ⟨z,_⟩
  ·exact e
  ·rw[hk]at z;rcases z with z | z<;>cases z
 have hcls:(X.env.scope.kind==.class||(X.env.scope.kind==.module&&X.env.locals != X.env.globals))=false:=by rw[I.ok.kind];rfl
 refine wpAny_onRaise (wpAny_unbindName_local hk hn hm hcls λh' u' hn' hs=>?_);have cne:=I1.cne;obtain⟨oL,_,_,hoL,_⟩:=id hn;refine h _ ⟨I1.ok,I1.os,I1.bare,⟨λb o e n hb hx=>?_,λb o e n hb hx=>?_,I1.base.free,λb o e hx=>?_,I1.base.tups,I1.base.frzs,I1.base.tbls⟩,⟨_,hn',λj y v' e1 e2 e3=>?_⟩,λy c e=>?_,I1.free,I1.freeC,λp hp=>?_,λb ob e=>?_,by rw[JK];exact I.len⟩
 ·exact(hs.2 b (Jk (Jj (Jr e) I1.ok.above))).trans (I1.base.keep b o e n hb hx)
 ·obtain⟨sl,e1⟩:=I1.base.slot b o e n hb hx
  exact⟨sl,(hs.2 b (Jk (Jj (Jr e) I1.ok.above))).trans e1⟩
 ·obtain⟨o',e1⟩:=I1.base.there b o e hx
  exact⟨o',(hs.2 b (Jk (Jj (Jr e) I1.ok.above))).trans e1⟩
 ·by_cases hj:j=i
  ·subst hj
   rw[JA hiσ]at e2;cases e2
  ·rw[List.getElem?_set_ne (Ne.symm hj)]at e2
   obtain⟨u',r',q⟩:=hl j y v' e1 (by rw[List.getElem?_set_ne (Ne.symm hj)];exact e2) e3;refine⟨u',r',?_⟩;rcases q with⟨k,e⟩ | ⟨k,c,e,z⟩
   ·refine .inl ⟨k,?_⟩
    have:y≠x:=λe=>hj (o6 hN e1 (e▸hi));simp[this,e]
   ·exact .inr ⟨k,c,e,z.sameBut hs (cne y c e)⟩
 ·obtain⟨w',z⟩:=I1.cell y c e
  exact⟨w',z.sameBut hs (cne y c e)⟩
 ·obtain⟨e,n,ne,nf,d⟩:=I1.pin p hp
  exact⟨(hs.2 p.1 ne).trans e,n,ne,nf,d⟩
 ·refine(I1.hok b ob e).stay (λc w' hc q=>(hs.2 c ?_).trans q) (λ_ q=>q) λ_ _ q=>q
  rintro rfl;rcases hc with rfl | hc
  ·rw[I1.free]at e;cases e
  ·rw[I1.free]at hc;cases hc
noncomputable abbrev Cx.held(X:Cx)(ea:Addr):Cx:={X with A:=X.A.mark (some (.ref ea)),calm:=false,xe:=λ_ _=>False}
theorem Inv.held(I:Inv X pins σ H s)(ea:Addr):Inv (X.held ea) pins σ H s:=
 ⟨⟨I.ok.mod,I.ok.kind,I.ok.glob,I.ok.blt,I.ok.above,I.ok.inj,I.ok.has,I.ok.cab,(λz=>by cases z),I.ok.frames,I.ok.stk,I.ok.exf,I.ok.bs,I.ok.bsz,I.ok.noex,I.ok.exfs,I.ok.funs,I.ok.frf⟩,I.os,I.bare,I.base,I.loc,I.cell,I.free,I.freeC,I.pin,I.hok,I.len⟩
theorem Inv.unheld{ea:Addr}(hd:X.calm=true->X.A.handled=none)(I:Inv (X.held ea) pins σ H s):Inv X pins σ H s:=
 ⟨⟨I.ok.mod,I.ok.kind,I.ok.glob,I.ok.blt,I.ok.above,I.ok.inj,I.ok.has,I.ok.cab,hd,I.ok.frames,I.ok.stk,I.ok.exf,I.ok.bs,I.ok.bsz,I.ok.noex,I.ok.exfs,I.ok.funs,I.ok.frf⟩,I.os,I.bare,I.base,I.loc,I.cell,I.free,I.freeC,I.pin,I.hok,I.len⟩
end
def mh(K:JT)(C D:Addr):Prop:=∃dd cd sl,K.lookup C=some ⟨.type "type",dd,.cls cd,sl⟩/\cd.mro.contains (.ref D)=true
section
variable {X:Cx}{P:J3}{w:J9}{e tg:Expr}{tx:TX}{g:TG}{i:Nat}{n x:Str}{D:Addr}{bmD:JX}{nD:String}{b₀:Stmt}{suite:List Stmt}{apos pos hpos np:Pos}{ts:Addr->TS}
end
section
variable {X:Cx}{pins:JU}{σ:St}{H:Hp}{s:JW}
theorem Inv.moved{ch:JY}{h':Heap}{tk:Nat}(I:Inv X pins σ H s)(hf:∀b∈ch,mx X pins H b)(k:∀b o,b∉ch->s.heap.get? b=some o->h'.get? b=some o):Inv X pins σ H {s with heap:=h',toks:=tk}:=by
 have nH:∀b o,H b=some o->b∉ch:=λb o e z=>by rw[(hf b z).1]at e;cases e
 refine I.call' (s':={s with heap:=h',toks:=tk}) (ch:=ch) rfl ⟨λb o e _ _ hc=>k b o hc e,λb o e _ _ hc=>⟨o.slots,k b o hc e⟩,λb o e n hc=>n,λb o e hc=>⟨o,k b o hc e⟩,λb xs q=>q,λb o y q=>q,λb qs q=>⟨#[],by rw[q];simp⟩⟩
  (λb o e=>(I.hok b o e).stay (λc u hc q=>k c u (by
   rcases hc with rfl | hc
   ·exact nH _ _ e
   ·exact nH _ _ hc) q) (λ_ q=>q) λ_ _ q=>q) I.bare λb hb=>?_
 obtain⟨f0,f1,f2,f3,f4,f5⟩:=hf b hb;exact⟨f3,f1,f4,f5⟩
theorem Inv.movedT{ch:JY}{h':Heap}{tk:Nat}{T:Addr}{ob:HO}(I:Inv X pins σ H s)(hf:∀b∈ch,mx X pins H b)(k:∀b o,b∉ch->s.heap.get? b=some o->h'.get? b=some o)(hT:s.heap.objs.size<=T)(new:bt X.prog X.w (aC H T ob) h' T ob) :
  Inv X pins σ (aC H T ob) {s with heap:=h',toks:=tk}:=by
 have nH:∀b o,H b=some o->b∉ch:=λb o e z=>by rw[(hf b z).1]at e;cases e
 have hn:H T=none:=I.hok.fresh hT;have nT:∀b o,s.heap.get? b=some o->b≠T:=λb o e z=>by rw[z]at e;exact absurd (Jr e) (Nat.not_lt.mpr hT)
 refine I.call' (s':={s with heap:=h',toks:=tk}) (ch:=ch) rfl ⟨λb o e _ _ hc=>k b o hc e,λb o e _ _ hc=>⟨o.slots,k b o hc e⟩,λb o e n hc=>by rw[aj (nT b o e)];exact n,λb o e hc=>⟨o,k b o hc e⟩,λb xs q=>by rw[aj (aJ q hn)];exact q,λb o y q=>by rw[aj (aJ q hn)];exact q,λb qs q=>⟨#[],by rw[aj (aJ q hn),q];simp⟩⟩
  (λb o e=>?_) I.bare λb hb=>?_
 ·by_cases hb:b=T
  ·subst hb
   rw[ac]at e;cases e;exact new
  ·rw[aj hb]at e
   exact(I.hok b o e).stay (λc u hc q=>k c u (by
    rcases hc with rfl | hc
    ·exact nH _ _ e
    ·exact nH _ _ hc) q) (λc q=>by rw[aj (aJ q hn)];exact q) λc xs q=>by rw[aj (aJ q hn)];exact q
 ·obtain⟨f0,f1,f2,f3,f4,f5⟩:=hf b hb
  exact⟨f3,f1,f4,f5⟩
end
noncomputable def E4(K:JT)(a b:Addr):It:=
 ⟨λi H=>∃xs ys x y,aW K H a xs/\aW K H b ys/\xs[i]?=some x/\ys[i]?=some y,λi H v H'=>∃T x y,v=.ref T/\H T=none/\H'=aC H T (.tup [x,y])/\(∀xs,aW K H a xs->xs[i]?=some x)/\∀ys,aW K H b ys->ys[i]?=some y,
  λi H=>∃xs ys,aW K H a xs/\aW K H b ys/\(xs.length<=i\/ys.length<=i)⟩
theorem AE{P:J3}{w:J9}{K:JT}{elts:Kb}{x1:Nat}{tp:Pos}{z TI TO i1 i2 l1 l2:Addr}(D:ZipApart z TI TO i1 i2 l1 l2) :
  nI P w K (.Tuple elts x1 tp) (E4 K l1 l2) [z,TI,TO,i1,i2] z (λi h=>IsZip h z TI TO .none/\IsPair h TI (.ref i1) (.ref i2)/\(∃a b,IsPair h TO a b)/\h.IsListIter i1 l1 i/\h.IsListIter i2 l2 i) where
 mem:=by simp
 obj:=λi h st b hb=>by
  obtain⟨hz,hTI,⟨a,c,hTO⟩,⟨o1,e1,c1,d1⟩,⟨o2,e2,c2,d2⟩⟩:=st;simp only[Jg,List.not_mem_nil,or_false]at hb;rcases hb with rfl | rfl | rfl | rfl | rfl
  ·exact⟨_,hz,λv q=>by cases q⟩
  ·exact⟨_,hTI,λv q=>by cases q⟩
  ·exact⟨_,hTO,λv q=>by cases q⟩
  ·exact⟨_,e1,λv q=>by rw[d1]at q;cases q⟩
  ·exact⟨_,e2,λv q=>by rw[d2]at q;cases q⟩
 keep:=λi h h' st hk=>by
  obtain⟨hz,hTI,⟨a,b,hTO⟩,h1,h2⟩:=st;exact⟨hk z (by simp) _ hz,hk TI (by simp) _ hTI,⟨a,b,hk TO (by simp) _ hTO⟩,h1.at λo e=>hk i1 (by simp) o e,h2.at λo e=>hk i2 (by simp) o e⟩
 item:=by
  intro X hP hw hK hc i pins s σ H E I hf st hg;subst hP hw hK;obtain⟨xs,ys,x,y,hq1,hq2,hx,hy⟩:=hg;obtain⟨its1,rv1,p1,hz1⟩:=I.list hq1;obtain⟨its2,rv2,p2,hz2⟩:=I.list hq2;obtain⟨u1,hu1,ru1⟩:=rv1.get hx;obtain⟨u2,hu2,ru2⟩:=rv2.get hy;obtain⟨hz,hTI,⟨a,b,hTO⟩,h1,h2⟩:=st;refine wpAny_pyNext_zip_item D hz hTI hTO h1 h2 p1.isList p2.isList (x:=u1) (y:=u2) (by simpa using hu1) (by simpa using hu2) λh' a1 a2 a3 a4 a5 a6 hk=>?_;refine⟨_,rfl,wpAny_letOwnedTupleGo_zip a1 λh2' hz' hs'=>?_⟩;have hfree:H s.heap.objs.size=none:=I.hok.fresh (Jo _);have lt:∀{c o},s.heap.get? c=some o->s.heap.objs.size≠c:=λe=>Nat.ne_of_gt (Jr e);have kk:∀c o,c∉[z,TI,TO,i1,i2]->s.heap.get? c=some o->h2'.get? c=some o:=λc o hc e=>
   hs'.extBut _ _ (λq=>hc (by simp[q])) (hk c o (λq=>hc (by simp[q])) (λq=>hc (by simp[q])) (λq=>hc (by simp[q])) (λq=>hc (by simp[q])) e)
  have hT:h2'.get? s.heap.objs.size=some {cls:=.type "tuple",data:=.seq #[u1,u2]}:=hs'.extBut _ _ (lt hz) a5;refine⟨.ref s.heap.objs.size,aC H s.heap.objs.size (.tup [x,y]),I.movedT (tk:=s.toks) hf kk (Jo _) ⟨show 2<=sizeLine from by decide +kernel,[u1,u2],.cons ru1 (.cons ru2 .nil),_,hT,rfl,_,rfl⟩,rfl,
   ⟨_,x,y,rfl,hfree,rfl,λzs hzs=>by rw[I.list_inj hzs hq1];exact hx,λzs hzs=>by rw[I.list_inj hzs hq2];exact hy⟩,
   ⟨hz',hs'.extBut _ _ D.TIz (hk _ _ D.TIz D.TITO D.TIi1 D.TIi2 hTI),⟨_,_,hs'.extBut _ _ D.TOz a2⟩,a3.extBut hs'.extBut D.i1z,a4.extBut hs'.extBut D.i2z⟩,λb hb=>?_⟩
  have hlt:b≠s.heap.objs.size:=by
   obtain⟨o1,e1,_⟩:=h1;obtain⟨o2,e2,_⟩:=h2;simp only[Jg,List.not_mem_nil,or_false]at hb;rcases hb with rfl | rfl | rfl | rfl | rfl
   ·exact(lt hz).symm
   ·exact(lt hTI).symm
   ·exact(lt hTO).symm
   ·exact(lt e1).symm
   ·exact(lt e2).symm
  rw[aj hlt];exact(hf b hb).1
 done:=by
  intro X hP hw hK hc i pins s σ H E I hf st hg;subst hP hw hK;obtain⟨xs,ys,hq1,hq2,hx⟩:=hg;obtain⟨its1,rv1,p1,hz1⟩:=I.list hq1;obtain⟨its2,rv2,p2,hz2⟩:=I.list hq2;obtain⟨hz,hTI,⟨a,b,hTO⟩,h1,h2⟩:=st;have l1':=rv1.length;have l2':=rv2.length;refine wpAny_pyNext_zip_end (I.ok.hd hc) D hz hTI hTO h1 h2 p1.isList p2.isList ?_ λh' hk=>⟨rfl,I.moved (tk:=s.toks) hf λc o hc e=>hk c o (λq=>hc (by simp[q])) (λq=>hc (by simp[q])) (λq=>hc (by simp[q])) (λq=>hc (by simp[q])) e⟩;rcases hx with hx | hx
  ·exact .inl (by simp;omega)
  ·exact .inr (by simp;omega)
 self:=λ_ _ _ _ _ st h=>wpAny_pyIter_zip st.1 h
theorem zb(n l1 l2:Nat)(h1:l1<n)(h2:l2<n):ZipApart (n+4) (n+2) (n+3) n (n+1) l1 l2:=by
 constructor<;>exact λe=>absurd (show(_:Nat)=_ from e) ⋯
section
variable {X:Cx}{elts:Kb}{x1:Nat}{tp:Pos}
noncomputable def DQ(K:JT)(ta:TA):TI:=λσ H R=>ta σ H λvs H1=>∃a b xs ys,vs=[.ref a,.ref b]/\aW K H1 a xs/\aW K H1 b ys/\R (E4 K a b) H1
theorem DE{a b:Expr}{ta:TA}{p pos:Pos}(hg:Gl X "zip")(hm:X.mg "zip"=none)(ha:PA X [a,b] ta)(hs:autoParam (starEach [a,b] X.env=[(false,eval a X.env),(false,eval b X.env)]) zz0._auto_1)(hs2:autoParam (starEach [b] X.env=[(false,eval b X.env)]) zz0._auto_1):PI X (.Tuple elts x1 tp) (.Call (.Name "zip" p) [a,b] [] pos) (DQ X.K ta):=by
 intro pins s σ H R I h;refine Call_ (b5 I hg hm boot_zip (PyProof.Rows.callWith_type1 (bM (ha pos pins s σ H _ I h) λus s1 ⟨vs,H1,I1,r1,q1⟩=>?_) (by rw[hs,hs2]) (by rw[hs2];rfl)));obtain⟨l1,l2,xs,ys,rfl,hq1,hq2,q⟩:=q1;obtain⟨u,v,rfl,ru,rv⟩:=r1.two;cases ru;cases rv;obtain⟨its1,rv1,p1,_⟩:=I1.list hq1;obtain⟨its2,rv2,p2,_⟩:=I1.list hq2;refine call_zip_2 p1.isList p2.isList λh' z1 z2 z3 z4 z5 z6 hk=>?_;have lt1:l1<s1.heap.objs.size:=by obtain⟨_,e,_⟩:=p1.isList;exact Jr e
 have lt2:l2<s1.heap.objs.size:=by obtain⟨_,e,_⟩:=p2.isList;exact Jr e
 have I2:Inv X pins σ H1 {s1 with heap:=h' }:=I1.kept (t':=s1.toks) hk;refine wpAny_pyIter_zip z1 ?_;refine⟨s1.heap.objs.size+4,[s1.heap.objs.size+4,s1.heap.objs.size+2,s1.heap.objs.size+3,s1.heap.objs.size,s1.heap.objs.size+1],_,_,H1,rfl,I2,AE (l1:=l1) (l2:=l2) ?_,⟨z1,z2,⟨_,_,z3⟩,z4,z5⟩,λb hb=>?_,q⟩
 ·exact zb _ _ _ lt1 lt2
 ·have hb':s1.heap.objs.size<=b:=by
   simp only[Jg,List.not_mem_nil,or_false]at hb;rcases hb with e | e | e | e | e<;>(rw[e];first | exact Jo _ | exact Nat.le_add_right _ _)
  exact I1.fpOk hb' (I1.hok.fresh hb')
end
end L2
namespace PySem.W
open PySem PySem.Spec PySem.Calls PyProof.Rows
section
variable {prog:J3}{w:J9}{A:J8}{E:JS}{s:JW}{K:Frag}{x D:Addr}{ox:Obj}{odo:Option Obj}{name:Str}
theorem wV(self:Value):bindSpecial (.builtin "BaseException.__getattribute__") self=pure (.builtin "BaseException.__getattribute__",[self]):=F.excAttr_ValueError.ga.bind self
theorem tG{tk:Tok}{Q:Unit->Shared->Prop}(X:K.In s.heap)(I:InstAt s.heap x ox D odo)(hb:mroIn K D (.type "BaseException")=some true)(h:Q () s) :
  wpAny (model prog w) A (checkBuiltinCall "BaseException.__getattribute__" ⟨[.ref x,.str name tk],[]⟩) Q E s:=by
 have L0:=I.type (M:=model prog w);have L1:=looks_mroIn (M:=model prog w) X hb;have LI:Looks (model prog w) s.heap (isInstance (.ref x) (.type "BaseException")) true:=L0.andThen L1;have hk:builtinKind "BaseException.__getattribute__"=some .slot:=by decide +kernel
 have hs:splitId "BaseException.__getattribute__"=some ("BaseException","__getattribute__"):=by decide +kernel
 have ha:=F.args_bexc_ga (.ref x) (.str name tk);simp only[checkBuiltinCall,hk,hs];refine wpAny_bind (LI.at ?_);simp only[Bool.not_true,Bool.false_eq_true,if_false];cases hsig:Manifest.signature? "BaseException.__getattribute__" with
 |none=>exact wpAny_pure h
 |some sig=>
  simp only[argsOk,hsig]at ha;show wpAny _ _ (Bind.checkArgs _ sig _) Q E s;rw[ha];exact wpAny_pure h
theorem x5{g a v:Value}{Q:Option Value->Shared->Prop}(X:K.In s.heap)(I:InstAt s.heap x ox D odo)(hga:findIn K (.ref D) "__getattribute__"=some (some (.builtin "BaseException.__getattribute__")))(hgh:findIn K (.ref D) "__getattr__"=some none)
  (hb:mroIn K D (.type "BaseException")=some true) (hf:findObj K D odo name=some (.bind g a))
  (hc:∀(A':J8) (R:Result->Shared->Prop),R (.ok (.ret v)) {s with toks:=s.toks+1}->codeAny (model prog w) A' (.call g ⟨[a,.ref x,.ref D],[]⟩) R {s with toks:=s.toks+1}) (hv:handedIn v=true) (h:Q (some v) {s with toks:=s.toks+1}) :
  wpAny (model prog w) A (getAttr? (.ref x) name) Q E s:=by
 obtain⟨hh,gg,d,t,os⟩:=s;have L0:=I.type (M:=model prog w);have L1:=looks_findIn (M:=model prog w) X hga;have L2:=looks_findIn (M:=model prog w) X hgh;have L3:=looks_find (M:=model prog w) X I hf;unfold getAttr? getAttrBy? getAttrBy;refine wpAny_bind (wpAny_mkText (wpAny_bind (wpAny_attempt (wpAny_holding (wpAny_bind (L0.at (wpAny_bind (L1.at ?_))))))));show wpAny _ _ (getAttrByItsOwn _ _ _ _ _ _) _ _ _;unfold getAttrByItsOwn hookBefore;refine wpAny_bind (L2.at ?_);refine wpAny_bind (wpAny_attempt (wpAny_holding ?_));unfold callGetattribute boundAndCalled;show wpAny _ _ (bindSpecial _ _ >>= _) _ _ _;rw[wV];refine wpAny_bind (wpAny_pure ?_);refine wpAny_call (codeAny_call_builtin F.excAttr_ValueError.ga.plain F.entry_bexc_ga (tG X I hb ?_));have e1:slotArgs "__getattribute__" 1 ⟨[.ref x,.str name t],[]⟩=pure (.ref x,[.str name t]):=rfl;unfold Builtin.«object.__getattribute__»;show wpAny _ _ (slotArgs "__getattribute__" 1 ⟨[.ref x,.str name t],[]⟩ >>= _) _ _ _;rw[e1];refine wpAny_bind (wpAny_pure ?_);refine wpAny_bind (wpAny_pure (wpAny_bind (L0.at (wpAny_bind (L3.at ?_)))));show wpAny _ _ (holding [a] (call g [a,.ref x,.ref D]) >>= ret) _ _ _;refine wpAny_bind (wpAny_holding (wpAny_call (hc _ _ (wpAny_pure ?_))));exact handed_on hv (wpAny_pure h)
theorem yR{Q:Option Value->Shared->Prop}(X:K.In s.heap)(I:InstAt s.heap x ox D odo)(hga:findIn K (.ref D) "__getattribute__"=some (some (.builtin "BaseException.__getattribute__")))(hgh:findIn K (.ref D) "__getattr__"=some none)
  (hb:mroIn K D (.type "BaseException")=some true) (hm:mroIn K D (.type "object")=some true) (hf:findObj K D odo "__class__"=some (.bind (.builtin "getset_descriptor.__get__") (.builtin "object.__class__"))) (h:Q (some (.ref D)) {s with toks:=s.toks+1}) :
  wpAny (model prog w) A (getAttr? (.ref x) "__class__") Q E s:=
 x5 (v:=.ref D) X I hga hgh hb hf (λA' R hR=>class_get (s:={s with toks:=s.toks+1}) (ox:=ox) (od:=odo) X I hm hR) rfl h
structure XTy(K:Frag)(D:Addr):Prop where
 ga:findIn K (.ref D) "__getattribute__"=some (some (.builtin "BaseException.__getattribute__"))
 gh:findIn K (.ref D) "__getattr__"=some none
 mb:mroIn K D (.type "BaseException")=some true
 mo:mroIn K D (.type "object")=some true
 ha:findIn K (.ref D) "__class__"=some (some (.builtin "object.__class__"))
 hn:specialIn K (.builtin "object.__class__") "__get__"=some (some (.builtin "getset_descriptor.__get__"))
 tk:takesIn K (.builtin "object.__class__")=some true
 cl:∃dd cd sl,K.lookup D=some ⟨.type "type",dd,.cls cd,sl⟩
theorem XTy.find(c:XTy K D):findObj K D odo "__class__"=some (.bind (.builtin "getset_descriptor.__get__") (.builtin "object.__class__")):=by
 obtain⟨dd,cd,sl,hl⟩:=c.cl;have hc:clsIn K D=some cd:=by unfold clsIn;rw[hl]
 unfold findObj;rw[hc,Option.bind_some,c.ha,Option.bind_some];simp[c.hn,c.tk]
theorem kitx_exc(c:XTy K D):KitX K (.ref x) (.ref D) (λh=>∃ox,InstAt h x ox D odo) where
 ty:=λ_ _ _ ⟨_,I⟩=>I.type
 it:=λ_ _ X _=>by
  obtain⟨dd,cd,sl,hl⟩:=c.cl;intro A' Q' E' s' k q;unfold isType loadHead;exact wpAny_bind (wpAny_loadPart (k _ _ (X _ _ hl)) (wpAny_pure q))
 ne:=λh tp dd its n sl X htp=>by
  obtain⟨dd,cd,sl,hl⟩:=c.cl;refine Bool.eq_false_iff.mpr λq=>?_;have e:D=tp:=Value.ref.inj (beq_iff_eq.mp q);subst e;have z:=congrArg (λo=>o.map Obj.cls) ((X _ _ hl).symm.trans htp);simp at z
 ca:=λX ⟨_,I⟩ k=>yR X I c.ga c.gh c.mb c.mo c.find k
end
end PySem.W
namespace L2
open PySem PySem.Spec PyProof.Rows
section
variable {X:Cx}
theorem zn{h:Heap}{a C:Addr}(e:CT a (.ref C) none h):∃ox,PySem.W.InstAt h a ox C none:=by
 obtain⟨o,vs,e1,e2,e3,e4⟩:=e;exact⟨o,e1,e2,by unfold PySem.W.notCls;rw[e4],by rw[e3];trivial⟩
theorem t9:∀{cs:List V} {us:JX},aY cs us->(∀c∈cs,iz c=true)->us=cs.map v7
 | [],_,.nil,_=>rfl
 |c::cs,_,.cons r t,h=>by rw[Ju,mS r (h c (by simp)),t9 t λz hz=>h z (by simp[hz])]
end
structure XR(K:JT)(C:Addr):Prop where
 ex:∃(bm bmN:JX) (newId Bn inN B nid initId:String),nc K C bm newId/\ExcBaseFacts Bn newId inN bmN/\bm.contains (.type Bn)=true/\ExcBaseFacts B nid initId bm
theorem eZ{X:Cx}{x:Str}{np cpos pos:Pos}{e₀:Expr}{bv:Kb}{t:TA}{C:Addr}{E:XK}(c:XR X.K C)(hc:X.calm=true)(hg:Gl X x)(hm:X.mg x=some (.ref C))(hx:AL X E)(ha:PA X (e₀::bv) t)
  (hd:autoParam ((x==("__debug__":Str))=false) zz2._auto_1)
  (he:autoParam (starEach (e₀::bv) X.env=(false,eval e₀ X.env)::starEach bv X.env) zz0._auto_1) (hpl:autoParam ((backTo cpos (starEach bv X.env)).any (·.1)=false) zz0._auto_1) :
  PS X (.Raise (some (.Call (.Name x np) (e₀::bv) [] cpos)) none pos) (sO C E t):=by
 obtain⟨bm,bmN,newId,Bn,inN,B,nid,initId,c1,c2,c3,c4⟩:=c.ex;exact Bc c1 c2 c3 c4 hc hg hm hx ha hd he hpl
section
variable {P:J3}{w:J9}{K:JT}{mg:JZ}{base:Heap}
theorem cF.okX{x qual:Str}{st:Stmt}{f:Addr}{fd:J0}{N ps:J4}{k:Nat}{sp:Sp}(F:cF K x qual st f fd)(S:aE N ps (ak st))(len:∀vs H Q E,sp vs H Q E->vs.length=ps.length)
  (hbody:∀(cdv:Value) (A:J8) (outer:List Env) (s:JW) (H:Hp) (vs:List V) (Q:VK) (E:XK),b_ k (A.deeper (envOfC qual (ak st) s.heap.objs.size f cdv))->sp vs H Q E ->
   ∃t,o9 (cW (dz P w) P w K mg base N qual (ak st) f cdv A outer s H E) (bj st) t/\t {nx:=λ_ H'=>Q .non H',rt:=Q} (start N vs) H):bb P w K mg base (dz P w) (k+1) f fd ps sp:=by
 obtain⟨oc,od,kV,doc,pm,an,cdv,ct,osl,rfl,lk,hcd⟩:=F.ex;exact AR lk hcd S len λA outer s H vs Q E hr hsp=>hbody cdv A outer s H vs Q E hr hsp
theorem bb.lift{CX:ia}{k:Nat}{f:Addr}{fd:J0}{ps:J4}{sp:Sp}(F:bb P w K mg base bD k f fd ps sp):bb P w K mg base CX k f fd ps sp:=
 ⟨F.len,λA outer s H args us vs Q E hr he hb hv hs=>codeAny_mono (F.run A outer s H args us vs Q E hr he hb hv hs) λr s' hq=>by
  cases r with
  |error e=>exact False.elim hq
  |ok fl=>cases fl<;>exact hq⟩
theorem cY.lift{CX:ia}{k:Nat}{x:Str}{ps:J4}{sp:Sp}(c:cY P w K mg base bD k x ps sp):cY P w K mg base CX k x ps sp:=by
 obtain⟨f,fd,F,r⟩:=c.ex;exact⟨f,fd,F.lift,r⟩
end
theorem BT{X:Cx}{K:JT}{es:Kb}{k:Nat}{t:BH}{n:Nat}{pos:Pos}(hK:X.K=K)(hc:X.calm=true)(h:Em X es t)
  (hn:autoParam ((assignEach es X.env).length=n) zz0._auto_1) (hst:autoParam ((assignEach es X.env).findIdx? (·.1)=none) zz0._auto_1):PG X (.Tuple es k pos) (zG K n t):=hK▸eF hc h hn hst
section
variable {K:JT}{g:TG}{ti:TT}{te:TE}{σ:St}{H:Hp}{Q:List V->Hp->Prop}
theorem zD{a b:Addr}{xs ys:List V}{n:Nat}(hn:n=min xs.length ys.length)(Pv:Nat->List V->St->Hp->Prop)(h0:Pv 0 [] σ H)(hz:∀i acc σ H,Pv i acc σ H->acc.length<sizeLine)(hi:∀i acc σ H,Pv i acc σ H->i<=n)
  (hl:∀i acc σ H,Pv i acc σ H->aW K H a xs/\aW K H b ys)
  (hs:∀i x y acc σ H T,xs[i]?=some x->ys[i]?=some y->Pv i acc σ H->H T=none->g (.ref T) σ (aC H T (.tup [x,y])) λσ2 H3=>ti σ2 H3 λb H4=>if b=true then te σ2 H4 λv H5=>Pv (i+1) (acc++[v]) σ2 H5 else Pv (i+1) acc σ2 H4)
  (he:∀acc σ H,Pv n acc σ H->Q acc H):f_ (E4 K a b) g ti te σ H Q:=by
 refine iS (J:=E4 K a b) (g:=g) (ti:=ti) (te:=te) (Q:=Q) (n:=n) Pv h0 hz hi (λacc σ H w=>⟨xs,ys,(hl _ _ _ _ w).1,(hl _ _ _ _ w).2,⋯⟩)
  (λi acc σ H hlt w=>⟨xs,ys,xs[i]'⋯,ys[i]'⋯,(hl _ _ _ _ w).1,(hl _ _ _ _ w).2,IQ ⋯,IQ ⋯⟩) (λi x acc σ H H2 hlt w y=>?_) he
 obtain⟨T,x,y,rfl,hT,rfl,hx,hy⟩:=y;exact hs i x y acc σ H T (hx xs (hl _ _ _ _ w).1) (hy ys (hl _ _ _ _ w).2) w hT
end
end L2
namespace QL
open PySem
theorem o_:bootBuiltins "ValueError"=some (.type "ValueError"):=by decide +kernel
end QL
namespace L2
open PySem PySem.Spec PyProof.Rows
noncomputable def Fw(K:JT)(a:Addr):It:=
 ⟨λi H=>∃xs x,aW K H a xs/\xs[i]?=some x,λi H v H'=>∃T x,v=.ref T/\H T=none/\H'=aC H T (.tup [.int (i:Int),x])/\∀xs,aW K H a xs->xs[i]?=some x,λi H=>∃xs,aW K H a xs/\xs.length<=i⟩
theorem zd{P:J3}{w:J9}{K:JT}{elts:Kb}{x1:Nat}{tp:Pos}{e it l:Addr}(hei:e≠it) :
  nI P w K (.Tuple elts x1 tp) (Fw K l) [e,it] e (λi h=>(∃old,IsEnum h e it i old)/\h.IsListIter it l i) where
 mem:=by simp
 obj:=λi h st b hb=>by
  obtain⟨⟨old,he⟩,⟨o1,e1,c1,d1⟩⟩:=st;simp only[Jg,List.not_mem_nil,or_false]at hb;rcases hb with rfl | rfl
  ·exact⟨_,he,λv q=>by cases q⟩
  ·exact⟨_,e1,λv q=>by rw[d1]at q;cases q⟩
 keep:=λi h h' st hk=>by
  obtain⟨⟨old,he⟩,h1⟩:=st;exact⟨⟨old,hk e (by simp) _ he⟩,h1.at λo e'=>hk it (by simp) o e'⟩
 item:=by
  intro X hP hw hK hc i pins s σ H E I hf st hg;subst hP hw hK;obtain⟨xs,x,hq,hx⟩:=hg;obtain⟨its,rv,p,hz⟩:=I.list hq;obtain⟨u,hu,ru⟩:=rv.get hx;obtain⟨⟨old,he⟩,h1⟩:=st;obtain⟨o1,e1,_⟩:=id h1;refine wpAny_pyNext_enum_item he h1 p.isList (x:=u) (by simpa using hu) hei λh' a1 a2 a3 a4 hk=>?_;refine⟨_,rfl,wpAny_letOwnedTupleGo_enum a1 λh2 he2 hs2=>?_⟩;have hfree:H s.heap.objs.size=none:=I.hok.fresh (Jo _);have lt:∀{c o},s.heap.get? c=some o->s.heap.objs.size≠c:=λe=>Nat.ne_of_gt (Jr e);have kk:∀c o,c∉[e,it]->s.heap.get? c=some o->h2.get? c=some o:=λc o hc q=>
   hs2.extBut _ _ (λz=>hc (by simp[z])) (hk c o (λz=>hc (by simp[z])) (λz=>hc (by simp[z])) q)
  have hT:h2.get? s.heap.objs.size=some {cls:=.type "tuple",data:=.seq #[.int i s.toks,u]}:=hs2.extBut _ _ (lt he) a3;refine⟨.ref s.heap.objs.size,aC H s.heap.objs.size (.tup [.int i,x]),I.movedT (tk:=s.toks+1) hf kk (Jo _) ⟨show 2<=sizeLine from by decide +kernel,[.int i s.toks,u],.cons ⟨_,rfl⟩ (.cons ru .nil),_,hT,rfl,_,rfl⟩,rfl,
   ⟨_,x,rfl,hfree,rfl,λzs hzs=>by rw[I.list_inj hzs hq];exact hx⟩,⟨⟨u,by simpa using he2⟩,a2.extBut hs2.extBut (Ne.symm hei)⟩,λb hb=>?_⟩
  have hlt:b≠s.heap.objs.size:=by
   simp only[Jg,List.not_mem_nil,or_false]at hb;rcases hb with rfl | rfl
   ·exact(lt he).symm
   ·exact(lt e1).symm
  rw[aj hlt];exact(hf b hb).1
 done:=by
  intro X hP hw hK hc i pins s σ H E I hf st hg;subst hP hw hK;obtain⟨xs,hq,hx⟩:=hg;obtain⟨its,rv,p,hz⟩:=I.list hq;obtain⟨⟨old,he⟩,h1⟩:=st;have l1':=rv.length;refine wpAny_pyNext_enum_end (I.ok.hd hc) he h1 p.isList (by simp;omega) λh' hk=>⟨rfl,I.moved (tk:=s.toks) hf λc o hc e=>hk c o (λq=>hc (by simp[q])) e⟩
 self:=λ_ _ _ _ _ st h=>let ⟨⟨_,he⟩,_⟩:=st;wpAny_pyIter_enum he h
section
variable {X:Cx}{elts:Kb}{x1:Nat}{tp:Pos}
noncomputable def A_(K:JT)(ta:TA):TI:=λσ H R=>ta σ H λvs H1=>∃a xs,vs=[.ref a]/\aW K H1 a xs/\R (Fw K a) H1
theorem mV{a:Expr}{ta:TA}{p pos:Pos}(hg:Gl X "enumerate")(hm:X.mg "enumerate"=none)(ha:PA X [a] ta)(hs:autoParam (starEach [a] X.env=[(false,eval a X.env)]) zz0._auto_1):PI X (.Tuple elts x1 tp) (.Call (.Name "enumerate" p) [a] [] pos) (A_ X.K ta):=by
 intro pins s σ H R I h;refine Call_ (b5 I hg hm boot_enumerate (PyProof.Rows.callWith_type1 (bM (ha pos pins s σ H _ I h) λus s1 ⟨vs,H1,I1,r1,q1⟩=>?_) (by rw[hs];rfl) (by rfl)));obtain⟨l,xs,rfl,hq,q⟩:=q1;obtain⟨u,rfl,ru⟩:=r1.one;cases ru;obtain⟨its,rv,p1,_⟩:=I1.list hq;refine call_enumerate_list p1.isList λh' z1 z2 z3 hk=>?_;have I2:Inv X pins σ H1 {s1 with heap:=h' }:=I1.kept (t':=s1.toks) hk;refine wpAny_pyIter_enum z1 ?_;refine⟨s1.heap.objs.size+1,[s1.heap.objs.size+1,s1.heap.objs.size],_,_,H1,rfl,I2,zd (l:=l) (Nat.ne_of_gt (Jy _)),⟨⟨_,z1⟩,z2⟩,λb hb=>?_,q⟩;have hb':s1.heap.objs.size<=b:=by
  simp only[Jg,List.not_mem_nil,or_false]at hb;rcases hb with e | e<;>(rw[e];first | exact Jo _ | exact Nat.le_add_right _ _)
 exact I1.fpOk hb' (I1.hok.fresh hb')
end
section
variable {K:JT}{g:TG}{tb:TS}{D:gY}{σ:St}{H:Hp}
theorem iM{a:Addr}{xs:List V}(Pv:Nat->St->Hp->Prop)(h0:Pv 0 σ H)(hl:∀i σ H,i<=xs.length->Pv i σ H->aW K H a xs)
  (hs:∀(i:Nat) x σ H T,xs[i]?=some x->Pv i σ H->H T=none->g (.ref T) σ (aC H T (.tup [.int (i:Int),x])) λσ2 H2=>tb {D with nx:=Pv (i+1),ct:=Pv (i+1),bk:=D.nx} σ2 H2) (hd:∀σ H,Pv xs.length σ H->D.nx σ H):t5 (Fw K a) g tb D σ H:=by
 refine⟨λi m σ H=>m=xs.length-i/\i<=xs.length/\Pv i σ H,⟨xs.length,by simp,Jp _,h0⟩,?_⟩;rintro i m σ H ⟨rfl,hi,p⟩;have q:=hl i σ H hi p
 by_cases hlt:i<xs.length
 ·refine .inr ⟨⟨xs,xs[i],q,by simp[hlt]⟩,Pv (i+1),λσ' H' p'=>⟨xs.length-(i+1),⋯,rfl,hlt,p'⟩,λx H' y=>?_⟩
  obtain⟨T,x,rfl,hT,rfl,y⟩:=y;exact hs i x σ _ T (y xs q) p hT
 ·have e:i=xs.length:=by omega
  subst e;exact .inl ⟨⟨xs,q,Jo _⟩,hd σ H p⟩
end
end L2
namespace PySem
open Sem (wp)
section
variable {M:Model}{A:J8}{E:JS}{env:Env}
variable {nm q:Str}{C N:Addr}{bs bm:JX}{hdct:Bool}{sn:J4}{sub:JX}{ab:Bool}{col:Option Bool}{dd:Ka}{k0 k1 k2 k3 k5:Option Value}{newId:String}
theorem pJ{s:JW}{x:Sem Value}{Q:Flow->Shared->Prop}(hbase:bm.contains (.type "BaseException")=true)(hh:A.handled=none)
  (h:wpAny M A x (λv s₁=>∃e oe vs,v=.ref e/\s₁.heap.get? C=some (excClassObj nm q C N bs bm hdct sn sub ab col dd k0 k1 k2 k3 k5 newId)/\s₁.heap.get? e=some oe/\oe.cls=.ref C/\oe.data=.fields vs/\vs[1]?=some .none/\E (.ref e) s₁) E s) :
  wpAny M A (raiseStmt env (some x) none) Q E s:=by
 have hcB:(Value.ref C::bm).contains (.type "BaseException")=true:=by rw[List.contains_cons,hbase,Bool.or_true]
 unfold raiseStmt;refine wpAny_bind (wpAny_mono h (λv s₁ h₁=>?_) λ_ _ x=>x);obtain⟨e,⟨oc,od,dt,sl⟩,vs,rfl,hC,he,hc,hd,hv,hE⟩:=h₁;dsimp only at hc hd;subst hc hd;obtain⟨hp,g,d,tk,os⟩:=s₁
 repeat (first | with_reducible refine wpAny_loadPart_at he ?_ | with_reducible refine wpAny_loadPart_at hC ?_ | (with_reducible refine wpAny_isSubtype_exc hC ?_;rw[hcB]) | wp_step)
 rw[hv];refine wpAny_pure ?_;rw[if_neg nofun];exact wpAny_pure (wpAny_raiseNew_none hh hE)
end
section
variable {prog:J3}{w:J9}{A:J8}{E:JS}{h:Heap}{g:Array GenState}{d:Drawn}{t:Nat}{os:OsState}
variable {nm q:Str}{C N:Addr}{bs bm bmB:JX}{hdct:Bool}{sn:J4}{sub:JX}{ab:Bool}{col:Option Bool}{dd:Ka}{k0 k1 k2 k3 k5:Option Value}{B Bn newId nid initId inN:String}{bmN:JX}{K:JT}
theorem i6(Fn:ExcBaseFacts Bn newId inN bmN)(hBn:bmB.contains (.type Bn)=true)(F:ExcBaseFacts B nid initId bmB)(T:OwnTail h bmB bm)(X:K.In h){bv:JX}{fI:Addr}{Q:Fin->Shared->Prop}
  (hC:h.get? C=some (excClassObj nm q C N bs bm hdct sn sub ab col dd k0 k1 k2 k3 k5 newId)) (hi:PySem.W.findIn K (.ref C) "__init__"=some (some (.ref fI))) (hf:PySem.W.typeIn K (.ref fI)=some (.type "function"))
  (hq:∀h' e,Heap.MadeExcOf h h' e (.ref C) bv ->
   wpAny (model prog w) A (call (.ref fI) (.ref e::bv)) (λr s'=>r=.none/\Q (.done (.ret (.ref e))) s') E ⟨h',g,d,t,os⟩) (hrest:bv.length<=sizeLine) :
  wpAny (model prog w) A (Builtin.«type.__call__» ⟨.ref C::bv,[]⟩) Q E ⟨h,g,d,t,os⟩:=by
 repeat (first | with_reducible refine wpAny_loadPart_at hC ?_ | with_reducible refine wpAny_madeBy_exc hC ?_ | wp_step)
 refine codeAny_call_builtin_code (Code.quiet_builtin _ Fn.quiet) (wpAny_check_new_subU Fn hBn T hC ?_);refine codeAny_exc_new_subU Fn hBn F T hC ?_ hrest;show wpAny _ _ _ _ _ _;have hC₁:=IS {cls:=.ref C,data:=.fields #[.ref h.objs.size,.none,.none,.none,.bool false,.none]}
  (IS {cls:=.type "tuple",data:=.seq bv.toArray} hC)
 have hget:((h.push {cls:=.type "tuple",data:=.seq bv.toArray}).push
   {cls:=.ref C,data:=.fields #[.ref h.objs.size,.none,.none,.none,.bool false,.none]}).get? (h.objs.size+1)=some
   {cls:=.ref C,data:=.fields #[.ref h.objs.size,.none,.none,.none,.bool false,.none]}:=by heap_get
 have hcC:(Value.ref C::bm).contains (.ref C)=true:=by simp
 have X₁:K.In ((h.push {cls:=.type "tuple",data:=.seq bv.toArray}).push {cls:=.ref C,data:=.fields #[.ref h.objs.size,.none,.none,.none,.bool false,.none]}):=
  X.keeps λb o e=>IS _ (IS _ e)
 unfold isInstance
 repeat (first | with_reducible refine wpAny_loadPart_at hget ?_ | (with_reducible refine wpAny_isSubtype_exc hC₁ ?_;rw[hcC]) | wp_step)
 show wpAny _ _ (typeLookup (.ref C) _) _ _ _;refine(PySem.W.looks_findIn X₁ hi).at ?_;refine wpAny_holding (wpAny_bind ((PySem.W.bind_fn X₁ _ hf).at ?_));refine wpAny_bind (wpAny_mono (hq _ (h.objs.size+1) ⟨λb o hb=>IS _ (IS _ hb),Heap.get?_none_of_le (Nat.le_succ _),h.objs.size,hget,Heap.get?_none_of_le (Jo _),?_⟩) (λr s' hr=>?_) λ_ _ x=>x)
 ·exact IS _ (Heap.get?_push_at rfl rfl)
 ·obtain⟨rfl,hQ⟩:=hr
  wp_walk
  exact hQ
theorem iE(Fn:ExcBaseFacts Bn newId inN bmN)(hBn:bmB.contains (.type Bn)=true)(F:ExcBaseFacts B nid initId bmB)(T:OwnTail h bmB bm)(X:K.In h){bv:JX}{fI:Addr}{Q:JS}
  (hC:h.get? C=some (excClassObj nm q C N bs bm hdct sn sub ab col dd k0 k1 k2 k3 k5 newId)) (hi:PySem.W.findIn K (.ref C) "__init__"=some (some (.ref fI))) (hf:PySem.W.typeIn K (.ref fI)=some (.type "function"))
  (hq:∀h' e,Heap.MadeExcOf h h' e (.ref C) bv ->
   wpAny (model prog w) (A.under (.builtin "type.__call__" ⟨.ref C::bv,[]⟩)) (call (.ref fI) (.ref e::bv)) (λr s'=>r=.none/\Q (.ref e) s') E ⟨h',g,d,t,os⟩) (hrest:bv.length<=sizeLine) :
  wpAny (model prog w) A (call (.ref C) bv) Q E ⟨h,g,d,t,os⟩:=by
 have f1:=tc_lookup;have f2:=tc_bind (.ref C);have hT:(⟨h,g,d,t,os⟩:Shared).TypeIs (.ref C) "type":=⟨_,hC,rfl⟩;refine wpAny_call (codeAny_of_tree ?_);show wpAny _ _ (callAny (.ref C) _) _ _ _
 repeat (any_goals (first | assumption | with_reducible refine wpAny_loadPart_at hC ?_ | wp_step))
 refine⟨rfl,?_⟩;refine codeAny_call_builtin_at (Code.quiet_builtin _ (by decide +kernel)) entry_typeCall (wpAny_check_type_call_sub hC (i6 (hrest:=hrest) Fn hBn F T X hC hi hf λh' e hm=>?_));exact hq h' e hm
end
section
variable {prog:J3}{w:J9}{A:J8}{E:JS}{s:JW}{env:Env}
variable {nm q:Str}{C N:Addr}{bs bm bmB:JX}{hdct:Bool}{sn:J4}{sub:JX}{ab:Bool}{col:Option Bool}{dd:Ka}{k0 k1 k2 k3 k5:Option Value}{B Bn newId nid initId inN:String}{bmN:JX}{K:JT}
theorem lR(Fn:ExcBaseFacts Bn newId inN bmN)(hBn:bmB.contains (.type Bn)=true)(F:ExcBaseFacts B nid initId bmB){x:Str}{np cpos pos:Pos}{args:Kb}{fI:Addr}{Q:Flow->Shared->Prop}
  (hbase:bm.contains (.type "BaseException")=true) (hh:A.handled=none) (hplain:(backTo cpos (starEach args env)).any (·.1)=false) (hi:PySem.W.findIn K (.ref C) "__init__"=some (some (.ref fI))) (hf:PySem.W.typeIn K (.ref fI)=some (.type "function"))
  (h:wpAny (model prog w) A (eval (.Name x np) env) (λf s₁=>f=.ref C/\wpAny (model prog w) A (evalArgs (.ref C) true (backTo cpos (starEach args env)) [])
   (λa s₂=>a.kw=[]/\a.pos.length<=sizeLine/\s₂.heap.get? C=some (excClassObj nm q C N bs bm hdct sn sub ab col dd k0 k1 k2 k3 k5 newId)/\K.In s₂.heap/\OwnTail s₂.heap bmB bm /\
    ∀h' e,Heap.MadeExcOf s₂.heap h' e (.ref C) a.pos->wpAny (model prog w) (A.under (.builtin "type.__call__" ⟨.ref C::a.pos,[]⟩)) (call (.ref fI) (.ref e::a.pos))
     (λr s'=>r=.none/\∃oe vs,s'.heap.get? C=some (excClassObj nm q C N bs bm hdct sn sub ab col dd k0 k1 k2 k3 k5 newId)/\s'.heap.get? e=some oe/\oe.cls=.ref C/\oe.data=.fields vs/\vs[1]?=some .none/\E (.ref e) s') E {s₂ with heap:=h' }) E s₁) E s) :
  wpAny (model prog w) A (exec (.Raise (some (.Call (.Name x np) args [] cpos)) none pos) env) Q E s:=by
 rw[arm_exec_Raise];simp only[evalOpt,Option.map];refine wpAny_bind (wpAny_standAt (pJ (C:=C) (nm:=nm) (q:=q) (N:=N) (bs:=bs) (bm:=bm) (hdct:=hdct) (sn:=sn) (sub:=sub) (ab:=ab) (col:=col) (dd:=dd) (k0:=k0) (k1:=k1) (k2:=k2) (k3:=k3) (k5:=k5) (newId:=newId) hbase hh (wpAny_bind (wpAny_mono (wpAny_Call_ofName (wpAny_mono h (λf s₁ h₁=>?_) λ_ _ x=>x)) (λv s₃ h₃=>wpAny_bind (wpAny_standAt (wpAny_pure h₃))) λ_ _ x=>x))));obtain⟨rfl,h₁⟩:=h₁;unfold callWith;refine wpAny_bind (wpAny_holding (wpAny_mono h₁ (λa s₂ h₂=>wpAny_bind (wpAny_standAt ?_)) λ_ _ x=>x));obtain⟨apos,akw⟩:=a;obtain⟨hkw,hlen,hC,hX,T,h₂⟩:=h₂;obtain rfl:akw=[]:=hkw;obtain⟨hp,g,d,tk,os⟩:=s₂;simp only[hplain];refine wpAny_bind (wpAny_keeperOf_exc hC ?_);refine wpAny_bind (iE (hrest:=hlen) Fn hBn F T hX hC hi hf λh' e hm=>wpAny_mono (h₂ h' e hm) (λr s' hr=>⟨hr.1,wpAny_bind (wpAny_holding (wpAny_point (wpAny_pure ?_)))⟩) λ_ _ x=>x);obtain⟨_,oe,vs,a1,a2,a3,a4,a5,a6⟩:=hr;exact⟨e,oe,vs,rfl,a1,a2,a3,a4,a5,a6⟩
end
end PySem
namespace PySem.W
open PySem PySem.Spec PySem.Calls PyProof.Rows
open Builtin Builtin.ObjectAttr
noncomputable def excOut(K:Frag)(C:Addr)(bmB:JX)(newId:String):Bool:=match K.lookup C with
 |some ⟨.type "type",_,.cls cd,sl⟩=>(match cd.mro,sl.toList with
  | .ref C'::bm,[_,_,_,_,some (.builtin n),_]=>C'==C&&n==newId && !cd.hasDel&&tailIn K bmB bm&&nsOkIn K cd.ns
  |_,_=>false)
 |_=>false
noncomputable def strip:List Value->List Value
 | .ref _::r=>strip r
 |l=>l
theorem jP(self:Value):∀{l bm:JX},strip l=bm->refuseLoop self "__setattr__" bm=pure ()->refuseLoop self "__setattr__" l=pure ()
 | [],_,e,h=>by rw[show([]:List Value)=_ from e];exact h
 | .ref c::r,_,e,h=>by rw[refuseLoop_ref];exact jP self (l:=r) e h
 | .type n::r,_,e,h=>by rw[show(Value.type n::r)=_ from e];exact h
 | .none::r,_,e,h=>by rw[show(Value.none::r)=_ from e];exact h
 | .bool b::r,_,e,h=>by rw[show(Value.bool b::r)=_ from e];exact h
 | .int i t::r,_,e,h=>by rw[show(Value.int i t::r)=_ from e];exact h
 | .float i t::r,_,e,h=>by rw[show(Value.float i t::r)=_ from e];exact h
 | .str i t::r,_,e,h=>by rw[show(Value.str i t::r)=_ from e];exact h
 | .bytes i t::r,_,e,h=>by rw[show(Value.bytes i t::r)=_ from e];exact h
 | .builtin n::r,_,e,h=>by rw[show(Value.builtin n::r)=_ from e];exact h
 | .ellipsis::r,_,e,h=>by rw[show(Value.ellipsis::r)=_ from e];exact h
 | .notImplemented::r,_,e,h=>by rw[show(Value.notImplemented::r)=_ from e];exact h
structure XSt(K:Frag)(C:Addr)(f:Str):Prop where
 sa:findIn K (.ref C) "__setattr__"=some (some (.builtin "object.__setattr__"))
 st:∃cd,clsIn K C=some cd/\strip cd.mro=[.type "ValueError",.type "Exception",.type "BaseException",.type "object"]/\cd.hasDict=true/\cd.mro.contains (.type "object")=true/\cd.mro.isEmpty=false
 no:findIn K (.ref C) f=some none
section
variable {prog:J3}{w:J9}{A:J8}{E:JS}{s:JW}{K:Frag}{x C:Addr}{ox:Obj}{vs:Array Value}{name:Str}{v:Value}
theorem set_new{Q:Unit->Shared->Prop}(X:K.In s.heap)(c:XSt K C name)(hx:s.heap.get? x=some ox)(hcl:ox.cls=.ref C)(hdn:ox.dict=none)(hdt:ox.data=.fields vs)
  (h:∀h' t',(∀b o,b≠x->s.heap.get? b=some o->h'.get? b=some o)->h'.get? x=some {ox with dict:=some s.heap.objs.size}->h'.Ns1 s.heap.objs.size (λy=>if y=name then some v else none)->Q () {s with heap:=h',toks:=t' }) :
  wpAny (model prog w) A (setAttr (.ref x) name v) Q E s:=by
 obtain⟨cd,hc,hst,hhd,hob,hne⟩:=c.st;obtain⟨oc,od,dt,sl⟩:=ox;dsimp only at hcl hdn hdt;subst hcl hdn hdt;have J:InstAt s.heap x ⟨.ref C,none,.fields vs,sl⟩ C none:=⟨hx,rfl,rfl,trivial⟩;obtain⟨hh,g,d,t,os⟩:=s;have SF:=PySem.F.store_object;refine set_plain X J c.sa ?_;have sub:Looks (model prog w) hh (isInstance (.ref x) (.type "object")) true:=J.type.andThen (looks_mroIn X (by unfold mroIn;rw[hc,Option.bind_some,if_neg (by rw[hne];decide),hob]));refine codeAny_call_builtin SF.slot.plain SF.entry (@check_slot (model prog w) _ _ _ "object.__setattr__" "object" "__setattr__" (.ref x) [.str name t,v] [] _ SF.kind SF.split sub (SF.args (.ref x) (.str name t) v) ?_);have hm:Looks (model prog w) hh (mroOf (.ref C)) cd.mro:=(looks_clsIn X hc).andThen .now;rw[osa_eq,refuse_eq];refine wpAny_bind (wpAny_bind (J.type.at (wpAny_bind (hm.at ?_))));rw[jP _ hst (PySem.F.store_ValueError.passes _)];refine wpAny_pure (wpAny_bind (J.type.at (wpAny_bind ((looks_findIn X c.no).at (wpAny_bind (wpAny_pure ?_))))));have hx₁:(hh.push {cls:=.type "dict",data:=.dict #[]}).get? x=some ⟨.ref C,none,.fields vs,sl⟩:=IS _ hx;have hxs:x≠hh.objs.size:=Jk (Jr hx);show wpAny _ _ (storeInOwnDict (.ref x) (.ref C) (.str name t) name v false) _ _ _;refine wpAny_bind (wpAny_pure (wpAny_bind (wpAny_bind (wpAny_loadPart hx ?_))));refine wpAny_bind ((looks_clsIn X hc).at ?_);rw[if_neg (by rw[hhd];decide)];dsimp only;rw[if_neg (by simp[typeHasDict])];refine wpAny_bind (wpAny_alloc' ?_);refine wpAny_bind (wpAny_update' hx₁ ?_);refine wpAny_pure ?_;have hgd:((hh.push {cls:=.type "dict",data:=.dict #[]}).update x λo=>{cls:=o.cls,dict:=some hh.objs.size,data:=o.data,slots:=o.slots}).get? hh.objs.size
   = some {cls:=.type "dict",data:=.dict #[]}:=
  (Heap.get?_update_ne _ _ _ _ hxs.symm).trans (Heap.get?_push_at rfl rfl)
 have hnd:((hh.push {cls:=.type "dict",data:=.dict #[]}).update x λo=>{cls:=o.cls,dict:=some hh.objs.size,data:=o.data,slots:=o.slots}).Ns hh.objs.size (λ_=>none):=
  ⟨_,#[],_,hgd,rfl,λe he=>absurd he (by simp),λ_=>rfl⟩
 show wpAny _ _ (storeInDict hh.objs.size (.str name t) name v) _ _ _;unfold storeInDict newKeyGuard;refine wpAny_bind (wpAny_pure (wpAny_bind (wpAny_nsSet1 (Heap.Ns1.of_empty hnd) λh' hn' hs=>?_)));obtain⟨oD,esD,epD,hoD,hdD,hcD⟩:=hn'.count (Within.cons name v Within.nil);refine wpAny_bind (wpAny_lookBehind hoD (by rw[hdD];exact pastItsLine_dict (Jw hcD (by rw[Jc,List.length_nil,sizeLine_eq];omega))) ?_);refine wpAny_pure (h h' _ (λb o hb e=>(hs.2 b (Jk (Jr e))).trans ((Heap.get?_update_ne _ _ _ _ hb).trans (IS _ e))) ?_ hn');exact(hs.2 x hxs).trans (Jb _ hx₁ rfl)
end
end PySem.W
namespace L2
open PySem PySem.Spec PyProof.Rows
structure lG(K:JT)(C:Addr)(bmB:JX)(newId:String):Prop where
 exc:PySem.W.excOut K C bmB newId=true
theorem lG.obj{K:JT}{C:Addr}{bmB:JX}{newId:String}{h:Heap}(c:lG K C bmB newId)(X:K.In h):∃bm N nm q bs hdct sn sub ab col dd k0 k1 k2 k3 k5,
  h.get? C=some (excClassObj nm q C N bs bm hdct sn sub ab col dd k0 k1 k2 k3 k5 newId)/\OwnTail h bmB bm/\∃dd' cd sl,K.lookup C=some ⟨.type "type",dd',.cls cd,sl⟩/\cd.mro=.ref C::bm:=by
 have q:=c.exc;unfold PySem.W.excOut at q;cases hl:K.lookup C with
 |none=>rw[hl]at q;cases q
 |some ob=>
  rw[hl]at q
  split at q
  ·rename_i dd cd sl e
   cases e
   split at q
   ·rename_i C' bm k0 k1 k2 k3 n k5 hm hs
    simp only[Bool.and_eq_true,beq_iff_eq,Bool.not_eq_true']at q;obtain⟨⟨⟨⟨rfl,rfl⟩,hdel⟩,ht⟩,hok⟩:=q;have ho:=X _ _ hl;have hsl:sl=#[k0,k1,k2,k3,some (.builtin n),k5]:=Array.toList_inj.mp hs;subst hsl;obtain⟨nm,bs,mro,ns,qn,hd,sn,sub,ab,col,del⟩:=cd;dsimp only at hm hdel hok ho;subst hm hdel;exact⟨bm,ns,nm,qn,bs,hd,sn,sub,ab,col,dd,k0,k1,k2,k3,k5,ho,PySem.W.tail_of_in X ht,dd,_,_,rfl,rfl⟩
   ·cases q
  ·cases q
def Dw(ea:Addr)(cls:Value)(od:Ka)(h:Heap):Prop:=∃o vs,h.get? ea=some o/\o.cls=cls/\o.dict=od/\o.data=.fields vs/\vs[1]?=some .none/\vs[2]?=some .none/\vs.size=6
noncomputable abbrev xn(ea:Addr)(cls:Value)(od:Ka):HO:=.ext (Dw ea cls od)
theorem ld{ea:Addr}{cls:Value}{od:Ka}:∀h1 h2:Heap,Dw ea cls od h1->(∀o,h1.get? ea=some o->h2.get? ea=some o)->Dw ea cls od h2:=
 λh1 h2 ⟨o,ws,e1,e2,e3,e4,e5⟩ k=>⟨o,ws,k o e1,e2,e3,e4,e5⟩
section
variable {X:Cx}{o value:Expr}{f:Str}{pos pos':Pos}{ta tv:TE}
noncomputable def zz(K:JT)(ta tv:TE)(f:Str):TS:=λD σ H=>tv σ H λy H1=>ta σ H1 λx H2=>∃a C,x=.ref a/\H2 a=some (xn a (.ref C) none)/\PySem.W.XSt K C f /\
 ∀d,H2 d=none->D.nx σ (aC (aC H2 d (.xd [(f,y)])) a (xn a (.ref C) (some d)))
theorem r9(ha:PE X o ta)(hv:PE X value tv)(hs:swapsWith value (some (.Attribute o f pos')) pos.line X.env=pure false):PS X (.Assign [.Attribute o f pos'] value pos) (zz X.K ta tv f):=by
 intro pins s σ H D I h;refine plainObj_wpAny_Assign_Attribute (bM (hv pins s σ H _ I h) λu s1 ⟨y,H1,I1,ry,q⟩=>bM (ha pins s1 σ H1 _ I1 q) λov s2 ⟨x,H2,I2,rx,a,C,ex,ea,c,q2⟩=>?_) hs;subst ex;obtain rfl:ov=Value.ref a:=rx;obtain⟨⟨ob,ws,e1,e2,e3,e4,e5⟩,_,_⟩:=(show bt X.prog X.w H2 s2.heap a (xn a (.ref C) none) from I2.hok a _ ea);refine PySem.W.set_new I2.kIn c e1 e2 e3 e4 λh' t' hk hx hn=>?_;have hfr:H2 s2.heap.objs.size=none:=I2.hok.fresh (Jo _);have hne:s2.heap.objs.size≠a:=Nat.ne_of_gt (Jr e1);have oa:(h'.update a λ_=>ob).get? a=some ob:=Jb _ hx (Obj.isFreed_of_fields e4);have oo:∀b,b≠a->(h'.update a λ_=>ob).get? b=h'.get? b:=λb hb=>IX _ _ (Ne.symm hb);have I3:Inv X pins σ (aC H2 s2.heap.objs.size (.xd [(f,y)])) {s2 with heap:=h'.update a λ_=>ob,toks:=t' }:=I2.laid (λb u z=>by
   by_cases hb:b=a
   ·subst hb;rw[e1]at z;cases z;exact oa
   ·rw[oo b hb];exact hk b u hb z) (Jo _) ⟨_,hn.at λo z=>(oo _ hne).trans z,λg=>?_⟩
 ·have I4:=I3.write (x:=a) (e:=a) (o:=xn a (.ref C) (some s2.heap.objs.size)) (h':=h') (t':=t') (by rw[aj (Ne.symm hne),ea];exact True.intro) (.inl rfl) (λb u hb z=>by rw[<- oo b hb];exact z) ⟨_,hx⟩ ⟨⟨_,ws,hx,e2,rfl,e4,e5⟩,⟨_,hx⟩,ld⟩
  exact⟨σ,_,I4,q2 _ hfr⟩
 ·show k9 (List.lookup g [(f,y)]) (if g=f then some u else none)
  by_cases z:g=f
  ·have hb:(g==f)=true:=beq_iff_eq.mpr z
   simp only[List.lookup,hb,if_pos z];exact ry
  ·have hb:(g==f)=false:=beq_eq_false_iff_ne.mpr z
   simp only[List.lookup,hb,if_neg z];exact True.intro
end
noncomputable def gE(C:Addr)(fn:Str):Sp:=λvs H Q _=>∃a v,vs=[.ref a,v]/\H a=some (xn a (.ref C) none)/\∀d,H d=none->Q .non (aC (aC H d (.xd [(fn,v)])) a (xn a (.ref C) (some d)))
noncomputable def jO(H:Hp)(e:Addr):Hp:=λb=>if b=e then none else H b
theorem bT{H:Hp}{e b:Addr}(h:b≠e):jO H e b=H b:=by unfold jO;rw[if_neg h]
theorem dw{H:Hp}{e:Addr}:jO H e e=none:=by unfold jO;rw[if_pos rfl]
def AZ(X:Cx)(E:XK):Prop:=∀(pins:JU) (σ:St) (H2:Hp) (s2:JW) (hm:Heap) (H3:Hp) (s3:JW) (e C:Addr) (od:Ka),Inv X pins σ H2 s2->Inv X pins σ H3 s3->s2.heap.get? e=none ->
 (∀b o,s2.heap.get? b=some o->hm.get? b=some o)->Un (gj X.stack) [] (aC H2 e (xn e (.ref C) none)) H3 hm s3.heap->s3.os=s2.os->H3 e=some (xn e (.ref C) od)->E (.ref C) od (jO H3 e)->X.xe (.ref e) s3
section
variable {P:J3}{w:J9}{K:JT}{mg:JZ}{base:Heap}{N:J4}{qual:Str}{scope:Scope}{f:Addr}{cd:Value}{A:J8}{outer:List Env}{s:JW}{H:Hp}{E E1:XK}
theorem dj(hE:∀c d H',E1 c d H'->E c d H'):AZ (cW (dz P w) P w K mg base N qual scope f cd A outer s H E) E1:=by
 intro pins σ H2 s2 hm H3 s3 e C od I2 I3 new keep un os3 he3 q;obtain⟨⟨oe,vs,g1,g2,g3,g4,g5⟩,_,_⟩:=(show bt P w H3 s3.heap e (xn e (.ref C) od) from I3.hok e _ he3);have ne:∀b o,s2.heap.get? b=some o->b≠e:=λb o z y=>by rw[y,new]at z;cases z
 have h2e:H2 e=none:=by
  cases z:H2 e with
  |none=>rfl
  |some o=>
   obtain⟨ob,hob⟩:=(I2.hok e o z).there;rw[new]at hob;cases hob
 have hin:∀env∈(cW (dz P w) P w K mg base N qual scope f cd A outer s H E).stack,∀b,env.frame=some b->b∈e::gj (cW (dz P w) P w K mg base N qual scope f cd A outer s H E).stack:=λenv he b hb=>.tail _ (List.mem_filterMap.mpr ⟨env,he,hb⟩);have hff:=PySem.W.funFrames_hide I3.stack hin;have u0:∀b,b≠e->H2 b=none->aC H2 e (xn e (.ref C) none) b=none:=λb hb n=>by rw[aj hb];exact n
 have fly0:Fly0 P w (cW (dz P w) P w K mg base N qual scope f cd A outer s H E).stack H2 s2 (PySem.W.hideAll s3.heap (e::gj (cW (dz P w) P w K mg base N qual scope f cd A outer s H E).stack)) (jO H3 e) s3:=by
  refine⟨λb o z=>PySem.W.of_hideAll _ z,hff,⟨λb o z n hb _=>un.keep b o (keep b o z) (u0 b (ne b o z) n) hb (by simp),λb o z n hb _=>un.slot b o (keep b o z) (u0 b (ne b o z) n) hb (by simp),λb o z n _=>?_,λb o z _=>un.there b o (keep b o z) (by simp),λb xs z=>?_,λb o y z=>?_,λb ps z=>?_⟩,λb o z=>?_,λb o z=>?_,λb o z hb=>?_,os3,I3.bare⟩
  ·rw[bT (ne b o z)]
   exact un.free b o (keep b o z) (u0 b (ne b o z) n) (by simp)
  ·have hb:b≠e:=aJ z h2e
   rw[bT hb];exact un.tups b xs (by rw[aj hb];exact z)
  ·have hb:b≠e:=aJ z h2e
   rw[bT hb];exact un.frzs b o y (by rw[aj hb];exact z)
  ·have hb:b≠e:=aJ z h2e
   rw[bT hb];exact un.tbls b ps (by rw[aj hb];exact z)
  ·have hb:b≠e:=λy=>by rw[y,dw]at z;cases z
   rw[bT hb]at z;exact(I3.hok b o z).stay (λ_ _ _ y=>y) (λc y=>by rw[bT (λx=>by rw[x,he3]at y;cases y)];exact y) λc xs y=>by rw[bT (λx=>by rw[x,he3]at y;cases y)];exact y
  ·have hb:b≠e:=λy=>by rw[y,dw]at z;cases z
   rw[bT hb]at z;obtain⟨ob,hob⟩:=(I3.hok b o z).there;refine⟨ob,PySem.W.hideAll_get _ hob λhm=>?_⟩;rcases Jg.mp hm with y | y
   ·exact hb y
   ·rw[I3.stkFree b y]at z;cases z
  ·obtain⟨o',z'⟩:=un.there b o (keep b o z) (by simp)
   refine⟨o',PySem.W.hideAll_get _ z' λhm=>?_⟩;rcases Jg.mp hm with y | y
   ·exact ne b o z y
   ·exact hb y
 have newB:(PySem.W.hideAll s3.heap (e::gj (cW (dz P w) P w K mg base N qual scope f cd A outer s H E).stack)).get? e=none:=PySem.W.hideAll_none _ (List.mem_cons_self ..);refine xg (cp:=λv=>v=.none) (s:=s3) I3.ok.frames fly0.ff rfl g1 fly0.st newB g4 g5.1 ⟨_,g5.2.1,rfl⟩ λh' fl2 up=>?_;rw[g2,g3]at fl2;exact⟨e,.ref C,od,_,jO H3 e,rfl,Fly0.up I2 rfl rfl rfl rfl rfl fly0 fl2 up,dw,hE _ _ _ q⟩
end
structure XI(P:J3)(w:J9)(K:JT)(mg:JZ)(base:Heap)(k:Nat)(C:Addr)(fn:Str):Prop where
 ex:∃(bm bmN:JX) (newId Bn inN B nid initId:String) (fI:Addr) (fd:J0) (ps:J4),lG K C bm newId/\ExcBaseFacts Bn newId inN bmN/\bm.contains (.type Bn)=true/\ExcBaseFacts B nid initId bm /\
  PySem.W.findIn K (.ref C) "__init__"=some (some (.ref fI))/\PySem.W.typeIn K (.ref fI)=some (.type "function")/\bb P w K mg base bD k fI fd ps (gE C fn)/\cI K fd ps []
section
variable {X:Cx}{x:Str}{np cpos pos:Pos}{e₀:Expr}{t:TA}{C:Addr}{fn:Str}{k:Nat}{E:XK}
noncomputable def tu(C:Addr)(fn:Str)(E:XK)(t:TA):TS:=λ_ σ H=>t σ H λvs H1=>vs.length<=sizeLine/\∃v,vs=[v]/\∀d,H1 d=none->E (.ref C) (some d) (aC H1 d (.xd [(fn,v)]))
theorem dn(c:XI X.prog X.w X.K X.mg X.base k C fn)(hr:b_ (k+1) X.A)(hc:X.calm=true)(hg:Gl X x)(hm:X.mg x=some (.ref C))(hx:AZ X E)(ha:PA X [e₀] t)
  (hd:autoParam ((x==("__debug__":Str))=false) zz2._auto_1) (he:autoParam (starEach [e₀] X.env=(false,eval e₀ X.env)::starEach [] X.env) zz0._auto_1) (hpl:autoParam ((backTo cpos (starEach [] X.env)).any (·.1)=false) zz0._auto_1) :
  PS X (.Raise (some (.Call (.Name x np) [e₀] [] cpos)) none pos) (tu C fn E t):=by
 obtain⟨bmB,bmN,newId,Bn,inN,B,nid,initId,fI,fd,ps,c1,c2,c3,c4,hi,hf,F,hb⟩:=c.ex;intro pins s σ H D I h;obtain⟨tl,N,nm,q,bs,hdct,sn,sub,ab,col,dd,k0,k1,k2,k3,k5,hC,T,_⟩:=c1.obj I.mod.kin;refine lR (K:=X.K) (fI:=fI) (C:=C) (nm:=nm) (q:=q) (N:=N) (bs:=bs) (bm:=tl) (hdct:=hdct) (sn:=sn) (sub:=sub) (ab:=ab) (col:=col) (dd:=dd) (k0:=k0) (k1:=k1) (k2:=k2) (k3:=k3) (k5:=k5)
  c2 c3 c4 (T.hasType c4.hasBase) (I.ok.hd hc) (by rw[he];show(false||(backTo cpos (starEach [] X.env)).any (·.1))=false;rw[hpl];rfl) hi hf (dW I hg hm ⟨rfl,?_⟩ hd)
 rw[he];have ha':=ha cpos pins s σ H _ I h;rw[he]at ha';refine Calls.evalArgs_plain (wpAny_mono ha' (λus s₂ ⟨vs,H1,I1,r1,z,v,ev,q1⟩=>⟨rfl,by rw[<- r1.length];exact z,I1.bk _ _ hC,I1.kIn,T.keeps I1.bk,λh' e hx'=>?_⟩) λ_ _ y=>y);subst ev;obtain⟨u,rfl,ru⟩:=r1.one;obtain⟨t0,he0,ht0,htt⟩:=hx'.there;have ne:∀b o,s₂.heap.get? b=some o->b≠e:=λb o z y=>by rw[y,hx'.new]at z;cases z
 have h1e:H1 e=none:=by
  cases z:H1 e with
  |none=>rfl
  |some o=>
   obtain⟨ob,hob⟩:=(I1.hok e o z).there;rw[hx'.new]at hob;cases hob
 have Im:Inv X pins σ (aC H1 e (xn e (.ref C) none)) {s₂ with heap:=h' }:=by
  refine I1.call' (s':={s₂ with heap:=h' }) (ch:=[]) rfl ⟨λb o z _ _ _=>hx'.keeps b o z,λb o z _ _ _=>⟨o.slots,hx'.keeps b o z⟩,λb o z n _=>by rw[aj (ne b o z)];exact n,λb o z _=>⟨o,hx'.keeps b o z⟩,λb xs z=>by rw[aj (aJ z h1e)];exact z,λb o y z=>by rw[aj (aJ z h1e)];exact z,λb ps z=>⟨#[],by rw[aj (aJ z h1e),z];simp⟩⟩ (λb o z=>?_) I1.bare (λb z=>absurd z (by simp))
  by_cases hb:b=e
  ·subst hb
   rw[ac]at z;cases z;exact⟨⟨_,_,he0,rfl,rfl,rfl,rfl,rfl,rfl⟩,⟨_,he0⟩,ld⟩
  ·rw[aj hb]at z
   exact(I1.hok b o z).stay (λc u _ y=>hx'.keeps c u y) (λc y=>by rw[aj (aJ y h1e)];exact y) λc xs y=>by rw[aj (aJ y h1e)];exact y
 have hsp:gE C fn [.ref e,v] (aC H1 e (xn e (.ref C) none)) (λr H3=>r=.non/\∃d,H3 e=some (xn e (.ref C) (some d))/\E (.ref C) (some d) (jO H3 e)) (λ_ _ _=>False):=by
  refine⟨e,v,rfl,ac,λd hd'=>⟨rfl,d,ac,?_⟩⟩;have hde:d≠e:=λy=>by rw[y,ac]at hd';cases hd'
  rw[aj hde]at hd';have ee:jO (aC (aC (aC H1 e (xn e (.ref C) none)) d (.xd [(fn,v)])) e (xn e (.ref C) (some d))) e=aC H1 d (.xd [(fn,v)]):=by
   funext b
   by_cases hb:b=e
   ·rw[hb,dw,aj (Ne.symm hde)];exact h1e.symm
   ·rw[bT hb,aj hb]
    by_cases hbd:b=d
    ·rw[hbd,ac,ac]
    ·rw[aj hbd,aj hb,aj hbd]
  rw[ee];exact q1 d hd'
 have hl:([Value.ref e,u]++[]).length=ps.length:=(F.len _ _ _ _ hsp:[V.ref e,v].length=ps.length);have r2:aY [V.ref e,v] [Value.ref e,u]:=.cons rfl (.cons ru .nil);refine wpAny_call (codeAny_mono (F.run _ X.stack _ _ ⟨[.ref e,u],[]⟩ [.ref e,u] _ _ _ (hr.make C [u] []) (Im.env0.make C [u] []) (hb _ [Value.ref e,u] Im.kIn hl) r2 hsp) λr s' hq'=>?_);cases r with
 |error ev=>exact False.elim hq'
 |ok fl=>
  cases fl with
  |ret u'=>
   obtain⟨v',H3,os3,bare3,un3,hok3,rv,ev,d,he3,qE⟩:=hq';subst ev;have I3:=Im.call' (ch:=[]) os3 un3 hok3 bare3 (λb z=>absurd z (by simp));obtain⟨⟨oe,ws,g1,g2,g3,g4,g5⟩,_,_⟩:=(show bt X.prog X.w H3 s'.heap e (xn e (.ref C) (some d)) from I3.hok e _ he3);exact⟨rv,oe,ws,I3.bk _ _ hC,g1,g2,g4,g5.1,hx pins σ H1 s₂ h' H3 s' e C (some d) I1 I3 hx'.new hx'.keeps un3 os3 he3 qE⟩
  |next=>exact False.elim hq'
  |brk=>exact False.elim hq'
  |cont=>exact False.elim hq'
end
section
variable {X:Cx}{P:J3}{w:J9}{e tg:Expr}{tx:TX}{g:TG}{i:Nat}{n x:Str}{D:Addr}{bmD:JX}{nD:String}{b₀:Stmt}{suite:List Stmt}{apos pos hpos np:Pos}{ts:Addr->TS}
noncomputable def rM(K:JT)(D:Addr)(tx:TX)(g:TG)(i:Nat)(ts:Addr->TS):TS:=λDe σ H=>
 tx σ H (λv H1=>g v σ H1 De.nx) (λcls od H'=>∃C bm nid,cls=.ref C/\lG K C bm nid/\mh K C D/\∀ea,H' ea=none ->
  ts ea {nx:=λσ2 H2=>De.nx (σ2.set i none) H2,rt:=De.rt,bk:=λσ2 H2=>De.bk (σ2.set i none) H2,ct:=λσ2 H2=>De.ct (σ2.set i none) H2} (σ.set i (some (.ref ea))) (aC H' ea (xo ea (.ref C) od)))
theorem wo{cp:Value->Prop}(hN:X.N.Nodup)(hst:X.stack=X.env::X.outer)(hfr:X.env.frame=some X.env.locals)(he:PX (Dy cp X.prog X.w) X e tx)(hg:PG X.nox tg g)(hi:X.N[i]?=some n)(hk:X.env.kindOf n=some .local)(hgl:Gl X x)(hm:X.mg x=some (.ref D))(cD:nc X.K D bmD nD)
  (hbase:bmD.contains (.type "BaseException")=true) (hs:∀ea,o9 (X.held ea) (b₀::suite) (ts ea))
  (hd:autoParam ((x==("__debug__":Str))=false) zz2._auto_1) (hsw:autoParam (swapsWithSole [tg] e apos.line X.env=pure false) zz0._auto_1) (hw:autoParam (swappedStores [tg] e X.env=pure none) zz0._auto_1)
  (h1:autoParam ((assignEach [tg] X.env).map (·.2)=[assign tg X.env]) zz0._auto_1) :
  PS X (.Try [.Assign [tg] e apos] [.ExceptHandler (some (.Name x np)) (some n) (b₀::suite) hpos] [] [] pos) (rM X.K D tx g i ts):=by
 intro pins s σ H De I h;refine wpAny_Try_except ?_;refine wpAny_execs_cons (wpAny_Assign_stores ?_ hsw hw);refine bM (he pins s σ H _ _ _ I h ?_) λv s1 ⟨y,H1,I1,r1,q1⟩=>?_
 ·rintro H1 s1 ev s' I1 ⟨ea,cls,od,B,H',rfl,fly,hn,C,bm,nid,rfl,cC,un,hsu⟩
  have hfl:eu cp B (X.env::X.outer) ea (.ref C) od .none s'.heap:=by rw[<- hst];exact fly.fl
  refine Ab (by rw[I.ok.frames,hst]) hfr hfl λh4 held4 up4=>?_;refine gz held4 λh5 fl5 up5=>?_;have J5:=I1.caught fly.toFly0 (by rw[hst];exact fl5) (up4.trans up5) hn;refine wpAny_handleBy_cons (codeAny_handlers_test ?_) (by intro q;cases q);refine dW (J5.held ea) hgl hm ?_ hd;obtain⟨tl,N,nm,q,bs,hdct,sn,sub,ab,col,dd,k0,k1,k2,k3,k5,hC,T,dd1,cd1,sl1,hlk,hmro⟩:=cC.obj J5.kIn;obtain⟨tl',N',nm',q',bs',hdct',sn',sub',ab',col',dd',k0',k1',k2',k3',k5',mN',hD,_,_,TD,_⟩:=cD.obj J5.kIn;obtain⟨dd2,cd2,sl2,hlk2,hsub⟩:=un;rw[hlk]at hlk2;cases hlk2;rw[hmro]at hsub;obtain⟨ob,_,hob,hobc,_⟩:=fl5.there;refine fY hC hD hob hobc (TD.hasType hbase) hsub (codeAny_handlers_suite_as ?_);refine gz fl5 λh6 fl6 up6=>?_;have J6:=I1.caught fly.toFly0 (by rw[hst];exact fl6) ((up4.trans up5).trans up6) hn;refine ku (v:=.ref ea) J6 hN hi (.inl hk) rfl (λs7 J7=>?_) (.inr hk);refine wpAny_mono (hs ea pins s7 _ _ _ (J7.held ea) (hsu ea hn)) (λfl s8 q8=>?_) λ_ _ f=>f.elim;cases fl with
  |next=>obtain⟨σ',H2,I8,q⟩:=q8;exact iO (v:=.non) (I8.unheld I.ok.hd) hN hi hk λs9 I9=>⟨_,_,I9,q⟩
  |brk=>obtain⟨σ',H2,I8,q⟩:=q8;exact iO (v:=.non) (I8.unheld I.ok.hd) hN hi hk λs9 I9=>⟨_,_,I9,q⟩
  |cont=>obtain⟨σ',H2,I8,q⟩:=q8;exact iO (v:=.non) (I8.unheld I.ok.hd) hN hi hk λs9 I9=>⟨_,_,I9,q⟩
  |ret u=>obtain⟨v,σ',H2,I8,rv,q⟩:=q8;exact iO (v:=.non) (I8.unheld I.ok.hd) hN hi hk λs9 I9=>⟨v,_,_,I9,rv,q⟩
 ·rw[h1]
  exact wpAny_mono (hg pins s1 σ H1 y v _ (I1.wish _) r1 q1) (λ_ s2 ⟨σ',H',I',q'⟩=>wpAny_execs_nil (wpAny_execs_nil ⟨σ',H',I'.unwish,q'⟩)) λ_ _ f=>f.elim
end
def EB(H:Hp)(a C:Addr):Prop:=H a=some (xo a (.ref C) none)\/∃d fs,H a=some (xo a (.ref C) (some d))/\H d=some (.xd fs)
section
variable {X:Cx}{pins:JU}{σ:St}{H:Hp}{s:JW}
theorem EB.inst{a C:Addr}(I:Inv X pins σ H s)(r:EB H a C):∃odo ox,PySem.W.InstAt s.heap a ox C odo:=by
 rcases r with r | ⟨d,fs,r,rd⟩
 ·obtain⟨hx,_⟩:=(show bt X.prog X.w H s.heap a (xo a (.ref C) none) from I.hok a _ r)
  obtain⟨ox,z⟩:=zn hx;exact⟨none,ox,z⟩
 ·obtain⟨⟨o,vs,e1,e2,e3,e4⟩,_⟩:=(show bt X.prog X.w H s.heap a (xo a (.ref C) (some d)) from I.hok a _ r)
  obtain⟨mA,n,_⟩:=(show bt X.prog X.w H s.heap d (.xd fs) from I.hok d _ rd);obtain⟨od,ho,_⟩:=lQ n;exact⟨some od,o,e1,e2,by unfold PySem.W.notCls;rw[e4],by rw[e3];exact ho⟩
noncomputable def EE(K:JT):List V->Hp->VK->Prop:=λxs H Q=>B_ K xs H Q \/
 (∃a C c b,xs=[.ref a,c]/\iz c=true/\EB H a C/\PySem.W.XTy K C/\PySem.W.kitOne K (.ref C) (v7 c)=some b/\Q (.bl b) H) \/
 (∃a C tp cs b,xs=[.ref a,.ref tp]/\H tp=some (.tup cs)/\(∀c∈cs,iz c=true)/\EB H a C/\PySem.W.XTy K C/\PySem.W.kitAny K (.ref C) (cs.map v7)=some b/\Q (.bl b) H)
theorem dL:fb X (.builtin "isinstance") (EE X.K):=by
 intro pins s σ H xs us Q I r h;rcases h with h | ⟨a,C,c,b,rfl,hc,ha,ty,e,q⟩ | ⟨a,C,tp,cs,b,rfl,ht,hc,ha,ty,e,q⟩
 ·exact cZ pins s σ H xs us Q I r h
 ·obtain⟨u,v,rfl,ru,rv⟩:=r.two
  cases ru;rw[mS rv hc];obtain⟨odo,hx⟩:=ha.inst I;exact PySem.W.kia_one (PySem.W.kitx_exc (odo:=odo) ty) I.kIn hx e (λz=>nomatch z) λtk=>⟨.bl b,H,I.tok tk,rfl,q⟩
 ·obtain⟨u,v,rfl,ru,rv⟩:=r.two
  cases ru;cases rv;obtain⟨odo,hx⟩:=ha.inst I;obtain⟨_,its,rvs,o,h1,h2,n,h3⟩:=(show bt X.prog X.w H s.heap tp (.tup cs) from I.hok tp _ ht);obtain⟨oc,odd,odt,osl⟩:=o;dsimp only at h2 h3;subst h2 h3;have ei:=t9 rvs hc;subst ei;exact PySem.W.kia_tup (PySem.W.kitx_exc (odo:=odo) ty) I.kIn hx h1 e (λz=>nomatch z) λtk=>⟨.bl b,H,I.tok tk,rfl,q⟩
end
end L2
namespace PySem.W
open PySem PySem.Spec PySem.Calls PyProof.Rows
section
variable {prog:J3}{w:J9}{A:J8}{E:JS}{s:JW}{K:Frag}{x D:Addr}{ox:Obj}{odo:Option Obj}{name:Str}
theorem exc_value{v:Value}{Q:JS}(X:K.In s.heap)(I:InstAt s.heap x ox D odo)(c:XTy K D)(hf:findObj K D odo name=some (.value v))(hv:handedIn v=true)(h:Q v {s with toks:=s.toks+1}) :
  wpAny (model prog w) A (getAttr (.ref x) name true) Q E s:=by
 obtain⟨hh,gg,d,t,os⟩:=s;have L0:=I.type (M:=model prog w);have L1:=looks_findIn (M:=model prog w) X c.ga;have L2:=looks_findIn (M:=model prog w) X c.gh;have L3:=looks_find (M:=model prog w) X I hf;unfold getAttr getAttrBy;refine wpAny_bind (wpAny_mkText (wpAny_holding (wpAny_bind (L0.at (wpAny_bind (L1.at ?_))))));show wpAny _ _ (getAttrByItsOwn _ _ _ _ _ _) _ _ _;unfold getAttrByItsOwn hookBefore;refine wpAny_bind (L2.at ?_);refine wpAny_bind (wpAny_attempt (wpAny_holding ?_));unfold callGetattribute boundAndCalled;show wpAny _ _ (bindSpecial _ _ >>= _) _ _ _;rw[wV];refine wpAny_bind (wpAny_pure ?_);refine wpAny_call (codeAny_call_builtin F.excAttr_ValueError.ga.plain F.entry_bexc_ga (tG X I c.mb ?_));have e1:slotArgs "__getattribute__" 1 ⟨[.ref x,.str name t],[]⟩=pure (.ref x,[.str name t]):=rfl;unfold Builtin.«object.__getattribute__»;show wpAny _ _ (slotArgs "__getattribute__" 1 ⟨[.ref x,.str name t],[]⟩ >>= _) _ _ _;rw[e1];refine wpAny_bind (wpAny_pure ?_);refine wpAny_bind (wpAny_pure (wpAny_bind (L0.at (wpAny_bind (L3.at ?_)))));refine wpAny_pure ?_;exact handed_on hv h
end
end PySem.W
namespace L2
open PySem PySem.Spec PyProof.Rows
section
variable {X:Cx}{e:Expr}{ta:TE}{f:Str}{pos:Pos}
noncomputable def Ar(K:JT)(ta:TE)(f:Str):TE:=λσ H Q=>ta σ H λx H1=>∃a C d fs v,x=.ref a/\H1 a=some (xo a (.ref C) (some d))/\H1 d=some (.xd fs)/\fs.lookup f=some v/\PySem.W.XTy K C/\PySem.W.hasDictIn K C=true/\aN K C f/\Q v H1
theorem B4(he:PE X e ta)(hb:attributeBase e f X.env (eval e X.env)=eval e X.env):PE X (.Attribute e f pos) (Ar X.K ta f):=by
 intro pins s σ H Q I h;refine wW hb (bM (he pins s σ H _ I h) λu s1 ⟨x,H1,I1,rx,a,C,d,fs,v,ex,ea,ed,l,c,hd,n,q⟩=>?_);subst ex;obtain rfl:u=Value.ref a:=rx;obtain⟨⟨o,vs,e1,e2,e3,e4⟩,_⟩:=(show bt X.prog X.w H1 s1.heap a (xo a (.ref C) (some d)) from I1.hok a _ ea);obtain⟨mA,ns,rel⟩:=(show bt X.prog X.w H1 s1.heap d (.xd fs) from I1.hok d _ ed);obtain⟨od,ho,hl⟩:=lQ ns;obtain⟨u,hu,ru⟩:=k9.some_of (v:=v) (o:=mA f) (by rw[<- l];exact rel f);have J:PySem.W.InstAt s1.heap a o C (some od):=⟨e1,e2,by unfold PySem.W.notCls;rw[e4],by rw[e3];exact ho⟩;exact PySem.W.exc_value I1.kIn J c (PySem.W.findObj_own hd n rfl (by rw[hl,hu])) (pM ru) ⟨v,H1,I1.tok _,ru,q⟩
end
end L2
namespace SpM
open PySem
noncomputable def step(c:Nat)(rows:List (List Nat))(d:Nat):List (List Nat):=if d=c then rows++[[]] else rows.dropLast++[rows.getLastD []++[d]]
noncomputable def AY(c:Nat)(x:JV):List (List Nat):=x.foldl (step c) [[]]
theorem ow(c:Nat){n:Nat}{rows:List (List Nat)}(h:∀r∈rows,r.length<=n)(d:Nat):∀r∈step c rows d,r.length<=n+1:=by
 intro r hr;unfold step at hr
 split at hr
 ·rcases Je.mp hr with q | q
  ·exact Nat.le_succ_of_le (h r q)
  ·rw[IU.mp q];simp
 ·rcases Je.mp hr with q | q
  ·exact Nat.le_succ_of_le (h r (List.dropLast_subset _ q))
  ·rw[IU.mp q,Jn]
   have:(rows.getLastD []).length<=n:=by
    by_cases e:rows=[]
    ·rw[e];simp
    ·have hl:rows.getLastD []∈rows:=by
      rw[List.getLastD_eq_getLast?,List.getLast?_eq_some_getLast e];exact List.getLast_mem e
     exact h _ hl
   simpa using this
theorem yx(c:Nat)(rows:List (List Nat))(d:Nat):(step c rows d).length<=rows.length+1:=by
 unfold step
 split
 ·simp
 ·rw[Jn,List.length_dropLast];simp
theorem kQ(c:Nat):∀(x:JV) (rows:List (List Nat)) (n:Nat),(∀r∈rows,r.length<=n)->(∀r∈x.foldl (step c) rows,r.length<=n+x.length)/\(x.foldl (step c) rows).length<=rows.length+x.length
 | [],rows,n,h=>⟨by simpa using h,by simp⟩
 |d::x,rows,n,h=>by
  obtain⟨h1,h2⟩:=kQ c x (step c rows d) (n+1) (ow c h d);have h3:=yx c rows d;refine⟨λr hr=>?_,?_⟩
  ·have:=h1 r hr;simp only[Jc];omega
  ·rw[List.foldl_cons];simp only[Jc];omega
theorem bE(c:Nat)(x:JV):(∀r∈AY c x,r.length<=x.length)/\(AY c x).length<=1+x.length:=by
 have:=kQ c x [[]] 0 (by simp);unfold AY;simpa using this
end SpM
namespace PyProof.Rows
open PySem PySem.Spec PySem.Builtin PySem.Builtin.Str
section
variable {prog:J3}{w:J9}{A:J8}{E:JS}{s:JW}{x y:Str}{t u:Tok}{Q:JS}
end
end PyProof.Rows
namespace L2
open PySem PySem.Spec PyProof.Rows QL
section
variable {X:Cx}
end
structure Bt(K:JT)(C:Addr)(m:Str)(f:Addr):Prop where
 sp:PySem.W.specialIn K (.ref C) "__getattribute__"=some (some (.builtin "type.__getattribute__"))
 rd:PySem.W.readsIn K C (.type "type")=true
 fi:PySem.W.findCls K (.ref C) (.type "type") m=some (.val (.ref f))
 kp:PySem.W.keepIn K (.ref f)=true
section
variable {X:Cx}{CX:ia}{k:Nat}{f C:Addr}{fd:J0}{ps:J4}{sp:Sp}{E:XK}{x m:Str}{p pos apos:Pos}{e:Expr}{es:Kb}{t:TA}
theorem zY{pl:Sem Bool}(c:Bt X.K C m f)(F:bb X.prog X.w X.K X.mg X.base CX k f fd ps sp)(hr:b_ k X.A)(hg:Gl X x)(hm:X.mg x=some (.ref C))(hb:cI X.K fd ps [])(hx:cu CX X E)(ha:PA X (e::es) t)
  (hdb:autoParam ((x==("__debug__":Str))=false) zz2._auto_1) (hst:autoParam (starEach (e::es) X.env=(false,eval e X.env)::starEach es X.env) zz0._auto_1) (hpl:autoParam ((backTo pos (starEach es X.env)).any (·.1)=false) zz0._auto_1)
  (ht:autoParam (eval (.Call (.Attribute (.Name x p) m apos) (e::es) [] pos) X.env=(do
   let ov <- eval (.Name x p) X.env
   standAt apos.atName
   let (f,first) <- holding [ov] (getMethod ov m pl)
   callWith pos f first (backTo pos (starEach (e::es) X.env)) (backToKw pos (keywordEach [] X.env)))) zz0._auto_1) :
  PE X (.Call (.Attribute (.Name x p) m apos) (e::es) [] pos) (ml sp [] E t):=by
 intro pins s σ H Q I h;refine PySem.W.methodCall_KW (pl:=pl) (dW I hg hm ?_ hdb) ht;refine PySem.W.method_cls I.kIn c.sp (PySem.W.cls_value I.kIn c.rd c.fi rfl ?_);have I1:=I.tok (s.toks+1);refine PySem.W.callWith_K (first:=[]) (h₀:=X.base) I.ok.mod.kin c.kp (bM (ha pos pins _ σ H _ I1 h) λus s2 ⟨vs,H2,I2,r,q2⟩=>⟨I2.kIn,?_⟩) hst hpl;exact lE F hr hb .nil hx I2 r q2
end
section
variable (P:J3)(w:J9)(K:JT)(mg:JZ)(base:Heap)(CX:ia)
structure yb(k:Nat)(x m:Str)(ps:J4)(sp:Sp):Prop where
 ex:∃(C f:Addr) (fd:J0),bb P w K mg base CX k f fd ps sp/\mg x=some (.ref C)/\Bt K C m f/\cI K fd ps []
structure oj(k:Nat)(x:Str)(C:Addr)(ps:J4)(sp:Sp):Prop where
 ex:∃(f:Addr) (fd:J0),bb P w K mg base CX k f fd ps sp/\mg x=some (.ref C)/\Mk K C f/\cI K fd ps []
structure lM(k:Nat)(C:Addr)(m:Str)(ps:J4)(sp:Sp):Prop where
 ex:∃(f:Addr) (fd:J0),bb P w K mg base CX k f fd ps sp/\m9 K C/\jD K C m f/\cI K fd ps []
end
section
variable {X:Cx}{CX:ia}{k:Nat}{C:Addr}{ps:J4}{sp:Sp}{E:XK}{x m:Str}{p pos apos:Pos}{e o:Expr}{es:Kb}{t:TA}{ta:TE}
theorem mQ{pl:Sem Bool}(c:yb X.prog X.w X.K X.mg X.base CX k x m ps sp)(hr:b_ k X.A)(hg:Gl X x)(hx:cu CX X E)(ha:PA X (e::es) t)
  (hdb:autoParam ((x==("__debug__":Str))=false) zz2._auto_1) (hst:autoParam (starEach (e::es) X.env=(false,eval e X.env)::starEach es X.env) zz0._auto_1) (hpl:autoParam ((backTo pos (starEach es X.env)).any (·.1)=false) zz0._auto_1)
  (ht:autoParam (eval (.Call (.Attribute (.Name x p) m apos) (e::es) [] pos) X.env=(do
   let ov <- eval (.Name x p) X.env
   standAt apos.atName
   let (f,first) <- holding [ov] (getMethod ov m pl)
   callWith pos f first (backTo pos (starEach (e::es) X.env)) (backToKw pos (keywordEach [] X.env)))) zz0._auto_1) :
  PE X (.Call (.Attribute (.Name x p) m apos) (e::es) [] pos) (ml sp [] E t):=by
 obtain⟨C,f,fd,F,hm,cf,hb⟩:=c.ex;exact zY cf F hr hg hm hb hx ha hdb hst hpl ht
theorem j9(c:oj X.prog X.w X.K X.mg X.base CX k x C ps sp)(hr:b_ (k+1) X.A)(hg:Gl X x)(hx:cu CX X E)(ha:PA X (e::es) t)
  (hdb:autoParam ((x==("__debug__":Str))=false) zz2._auto_1) (hst:autoParam (starEach (e::es) X.env=(false,eval e X.env)::starEach es X.env) zz0._auto_1) (hpl:autoParam ((backTo pos (starEach es X.env)).any (·.1)=false) zz0._auto_1) :
  PE X (.Call (.Name x p) (e::es) [] pos) (xj C sp [] E t):=by
 obtain⟨f,fd,F,hm,M,hb⟩:=c.ex;exact CJ M F hr hg hm hb .nil hx ha hdb hst hpl
theorem tB{pl:Sem Bool}(c:lM X.prog X.w X.K X.mg X.base CX k C m ps sp)(hr:b_ k X.A)(hx:cu CX X E)(he:PE X o ta)(ha:PA X (e::es) t)
  (hst:autoParam (starEach (e::es) X.env=(false,eval e X.env)::starEach es X.env) zz0._auto_1) (hpl:autoParam ((backTo pos (starEach es X.env)).any (·.1)=false) zz0._auto_1)
  (ht:autoParam (eval (.Call (.Attribute o m apos) (e::es) [] pos) X.env=(do
   let ov <- eval o X.env
   standAt apos.atName
   let (f,first) <- holding [ov] (getMethod ov m pl)
   callWith pos f first (backTo pos (starEach (e::es) X.env)) (backToKw pos (keywordEach [] X.env)))) zz0._auto_1) :
  PE X (.Call (.Attribute o m apos) (e::es) [] pos) (qz C m sp [] E ta t):=by
 obtain⟨f,fd,F,cl,hm,hb⟩:=c.ex;exact CO he cl hm F hr hb .nil hx ha hst hpl ht
theorem A9{pl:Sem Bool}(c:lM X.prog X.w X.K X.mg X.base CX k C m ps sp)(hr:b_ k X.A)(hx:cu CX X E)(he:PE X o ta)
  (ht:autoParam (eval (.Call (.Attribute o m apos) [] [] pos) X.env=(do
   let ov <- eval o X.env
   standAt apos.atName
   let (f,first) <- holding [ov] (getMethod ov m pl)
   callWith pos f first (backTo pos (starEach [] X.env)) (backToKw pos (keywordEach [] X.env)))) zz0._auto_1) :
  PE X (.Call (.Attribute o m apos) [] [] pos) (qz C m sp [] E ta nN):=by
 obtain⟨f,fd,F,cl,hm,hb⟩:=c.ex;exact As he cl hm F hr hb .nil hx ht
end
section
variable {g:TG}{ti:TT}{te:TE}{σ:St}{H:Hp}{Q:List V->Hp->Prop}
theorem zV{x:Str}(Pv:Nat->List V->St->Hp->Prop)(h0:Pv 0 [] σ H)(hz:∀i acc σ H,Pv i acc σ H->acc.length<sizeLine)(hi:∀i acc σ H,Pv i acc σ H->i<=x.cps.size)
  (hs:∀i c acc σ H,x.cps[i]?=some c->Pv i acc σ H->g (.str ⟨#[c]⟩) σ H λσ2 H3=>ti σ2 H3 λb H4=>if b=true then te σ2 H4 λv H5=>Pv (i+1) (acc++[v]) σ2 H5 else Pv (i+1) acc σ2 H4)
  (he:∀acc σ H,Pv x.cps.size acc σ H->Q acc H):f_ (ED x) g ti te σ H Q:=by
 exact iS (J:=ED x) (g:=g) (ti:=ti) (te:=te) (Q:=Q) (n:=x.cps.size) Pv h0 hz hi (λacc σ H w=>Jo _) (λi acc σ H hlt w=>hlt)
  (λi v acc σ H H2 hlt w y=>by obtain⟨rfl,c,hc,rfl⟩:=y;exact hs i c acc σ H2 hc w) he
end
section
variable {X:Cx}{e:Expr}{tx:TX}{i:Nat}{n x:Str}{D:Addr}{bmD:JX}{nD:String}{b₀:Stmt}{suite:List Stmt}{epos pos hpos np:Pos}{ts:Addr->TS}
end
section
variable (P:J3)(w:J9)(K:JT)(mg:JZ)(base:Heap)(CX:ia)
structure sY(k:Nat)(m:Str)(os:List (Addr×Sp)):Prop where
 ex:∀o∈os,∃ps,lM P w K mg base CX k o.1 m ps o.2
end
noncomputable def se(m:Str)(os:List (Addr×Sp))(E:XK)(ta:TE)(t:TA):TE:=λσ H Q=>ta σ H λx H1=>∃o∈os,∃a dx fs,x=.ref a/\H1 a=some (.ins o.1 dx fs)/\fs.lookup m=none /\
 t σ H1 λvs H2=>o.2 (x::(vs++[])) H2 Q E
section
variable {X:Cx}{CX:ia}{k:Nat}{os:List (Addr×Sp)}{E:XK}{m:Str}{pos apos:Pos}{e o:Expr}{es:Kb}{t:TA}{ta:TE}
theorem E3{pl:Sem Bool}(c:sY X.prog X.w X.K X.mg X.base CX k m os)(hr:b_ k X.A)(hx:cu CX X E)(he:PE X o ta)(ha:PA X (e::es) t)
  (hst:autoParam (starEach (e::es) X.env=(false,eval e X.env)::starEach es X.env) zz0._auto_1) (hpl:autoParam ((backTo pos (starEach es X.env)).any (·.1)=false) zz0._auto_1)
  (ht:autoParam (eval (.Call (.Attribute o m apos) (e::es) [] pos) X.env=(do
   let ov <- eval o X.env
   standAt apos.atName
   let (f,first) <- holding [ov] (getMethod ov m pl)
   callWith pos f first (backTo pos (starEach (e::es) X.env)) (backToKw pos (keywordEach [] X.env)))) zz0._auto_1) :
  PE X (.Call (.Attribute o m apos) (e::es) [] pos) (se m os E ta t):=by
 intro pins s σ H Q I h;refine PySem.W.methodCall_KW (pl:=pl) (bM (he pins s σ H _ I h) λu s1 ⟨x,H1,I1,rx,oc,ho,a,dx,fs,ex,ea,l,q⟩=>?_) ht;subst ex;obtain rfl:u=Value.ref a:=rx;obtain⟨ps,cm⟩:=c.ex oc ho;obtain⟨f,fd,F,cl,hm,hb⟩:=cm.ex;refine dO I1 ea cl hm l ?_;refine PySem.W.callWith_K (first:=[.ref a]) (h₀:=X.base) I.ok.mod.kin hm.kp (bM (ha pos pins s1 σ H1 _ I1 q) λus s2 ⟨vs,H2,I2,r,q2⟩=>⟨I2.kIn,?_⟩) hst hpl;exact lE (us:=.ref a::us) (vs:=.ref a::vs) F hr hb .nil hx I2 (.cons rfl r) q2
theorem uw{pl:Sem Bool}(c:sY X.prog X.w X.K X.mg X.base CX k m os)(hr:b_ k X.A)(hx:cu CX X E)(he:PE X o ta)
  (ht:autoParam (eval (.Call (.Attribute o m apos) [] [] pos) X.env=(do
   let ov <- eval o X.env
   standAt apos.atName
   let (f,first) <- holding [ov] (getMethod ov m pl)
   callWith pos f first (backTo pos (starEach [] X.env)) (backToKw pos (keywordEach [] X.env)))) zz0._auto_1) :
  PE X (.Call (.Attribute o m apos) [] [] pos) (se m os E ta nN):=by
 intro pins s σ H Q I h;refine PySem.W.methodCall_KW (pl:=pl) (bM (he pins s σ H _ I h) λu s1 ⟨x,H1,I1,rx,oc,ho,a,dx,fs,ex,ea,l,q⟩=>?_) ht;subst ex;obtain rfl:u=Value.ref a:=rx;obtain⟨ps,cm⟩:=c.ex oc ho;obtain⟨f,fd,F,cl,hm,hb⟩:=cm.ex;refine dO I1 ea cl hm l ?_;exact PySem.W.callWith_K0 (first:=[.ref a]) I1.kIn hm.kp (lE (us:=[.ref a]) (vs:=[.ref a]) F hr hb .nil hx I1 (.cons rfl .nil) q)
end
structure k7(K:JT)(C:Addr):Prop where
 cl:m9 K C
 ha:PySem.W.findIn K (.ref C) "__class__"=some (some (.builtin "object.__class__"))
 hn:PySem.W.specialIn K (.builtin "object.__class__") "__get__"=some (some (.builtin "getset_descriptor.__get__"))
 htk:PySem.W.takesIn K (.builtin "object.__class__")=some true
 hm:PySem.W.mroIn K C (.type "object")=some true
theorem k7.ty{K:JT}{C a dx:Addr}{H:Hp}{fs:List (Str×V)}(i:k7 K C)(e:H a=some (.ins C dx fs)):i9 K H (.ref a) (.ref C):=.ins e i.cl i.ha i.hn i.htk i.hm
noncomputable def vk(m:Str)(os:List (Addr×Sp))(ta:TE)(t:TA):TX:=λσ H Q E=>ta σ H λx H1=>∃o∈os,∃a dx fs,x=.ref a/\H1 a=some (.ins o.1 dx fs)/\fs.lookup m=none /\
 t σ H1 λvs H2=>o.2 (x::vs) H2 Q E
section
variable {X:Cx}{CX:ia}{k:Nat}{os:List (Addr×Sp)}{m:Str}{pos apos:Pos}{e o:Expr}{es:Kb}{t:TA}{ta:TE}
theorem Ch{pl:Sem Bool}(c:sY X.prog X.w X.K X.mg X.base CX k m os)(hr:b_ k X.A)(he:PE X.nox o ta)(ha:PA X.nox (e::es) t)
  (hst:autoParam (starEach (e::es) X.env=(false,eval e X.env)::starEach es X.env) zz0._auto_1) (hpl:autoParam ((backTo pos (starEach es X.env)).any (·.1)=false) zz0._auto_1)
  (ht:autoParam (eval (.Call (.Attribute o m apos) (e::es) [] pos) X.env=(do
   let ov <- eval o X.env
   standAt apos.atName
   let (f,first) <- holding [ov] (getMethod ov m pl)
   callWith pos f first (backTo pos (starEach (e::es) X.env)) (backToKw pos (keywordEach [] X.env)))) zz0._auto_1) :
  PX CX X (.Call (.Attribute o m apos) (e::es) [] pos) (vk m os ta t):=by
 intro pins s σ H Q E Ex I h hEx;refine PySem.W.methodCall_KW (pl:=pl) (wpAny_mono (he pins s σ H _ (I.wish _) h) (λu s1 ⟨x,H1,I1,rx,oc,ho,a,dx,fs,ex,ea,l,q⟩=>?_) λ_ _ f=>f.elim) ht;subst ex;obtain rfl:u=Value.ref a:=rx;obtain⟨ps,cm⟩:=c.ex oc ho;obtain⟨f,fd,F,cl,hm,hb⟩:=cm.ex;have J1:Inv X pins σ H1 s1:=I1.unwish;refine dO J1 ea cl hm l ?_;refine PySem.W.callWith_K (first:=[.ref a]) (h₀:=X.base) I.ok.mod.kin hm.kp (wpAny_mono (ha pos pins s1 σ H1 _ (J1.wish _) q) (λus s2 ⟨vs,H2,I2,r,q2⟩=>⟨I2.kIn,?_⟩) λ_ _ f=>f.elim) hst hpl;have J2:Inv X pins σ H2 s2:=I2.unwish;have r2:aY (V.ref a::vs) (Value.ref a::us):=.cons rfl r;have hl:((Value.ref a::us)++[]).length=ps.length:=by rw[Jz,<- r2.length];exact F.len _ _ _ _ q2
 have hb1:=hb s2 (Value.ref a::us) J2.kIn hl;rw[Jz]at hb1;refine wpAny_call (codeAny_mono (F.run X.A X.stack s2 H2 ⟨Value.ref a::us,[]⟩ (Value.ref a::us) (V.ref a::vs) Q E hr J2.env0 hb1 r2 q2) λrr s' hq=>?_);cases rr with
 |error ev=>exact hEx H2 s2 ev s' J2 hq
 |ok fl=>
  cases fl with
  |ret u=>exact J2.after hq
  |next=>exact False.elim hq
  |brk=>exact False.elim hq
  |cont=>exact False.elim hq
end
section
variable {X:Cx}{es:Kb}{t:TA}
theorem bg{x j p}(hr:PA X es t):PA X (.Constant (.str x) j p::es) (hZ (tC (.str x)) t):=aa cT hr rfl
theorem bB{x j p}(hr:PA X es t):PA X (.Constant (.int x) j p::es) (hZ (tC (.int x)) t):=aa af hr rfl
end
end L2
namespace PyProof.Rows
open PySem PySem.Spec PySem.Builtin PySem.Builtin.Str
section
variable {prog:J3}{w:J9}{A:J8}{E:JS}{s:JW}{x y:Str}{t u:Tok}{Q:JS}
end
end PyProof.Rows
namespace L2
open PySem PySem.Spec PyProof.Rows QL
section
variable {X:Cx}
end
section
variable {X:Cx}
end
section
variable {X:Cx}{pins:JU}{σ:St}{H:Hp}{s:JW}{a:Addr}{kvs:List (fk×V)}{k:fk}{u r:Value}{d:V}{A:J8}{E:JS}
theorem BB{Q:JS}(I:Inv X pins σ H s)(e:H a=some (.dK kvs))(ry:bq (kV k) u)(rd:bq d r)(hl:kvs.length<sizeLine)
  (h1:∀v w' s',fm kvs k=some v->Inv X pins σ H s'->bq v w'->Q w' s') (h2:fm kvs k=none->∀s',Inv X pins σ (aC H a (.dK (jz kvs k d))) s'->Q r s') :
  wpAny (model X.prog X.w) A (call (.builtin "dict.setdefault") [.ref a,u,r]) Q E s:=by
 obtain⟨z,hd,vs,rel,dd⟩:=C7 I.hok e;have hz:vs.length<=sizeLine:=by rw[<- rel.length];exact z
 have hl':(jz kvs k d).length<=sizeLine:=by have:=me kvs k d;omega
 refine call_meetsIn PySem.F.slot_dict_setdefault dd.typeIs PySem.F.entry_dict_setdefault (PySem.F.args_dict_setdefault_3 _ _ _) (kt_meets_setdefault (b7 X.prog X.w) a (BF ry) hd r) ⟨vs,dd,hz,λv hv=>?_,λhn h' dd' hs=>?_⟩
 ·have q:=rel.val k
  rw[hv]at q;cases hvv:fm kvs k with
  |none=>rw[hvv]at q;exact False.elim q
  |some v0=>rw[hvv]at q;exact h1 v0 v _ hvv (I.tok _) q
 ·have q:=rel.val k
  rw[hn]at q;have hvv:fm kvs k=none:=by
   cases hvv:fm kvs k with
   |none=>rfl
   |some v0=>rw[hvv]at q;exact False.elim q
  have he:∃q,h'.get? a=some q:=let ⟨q,_,_,hq,_⟩:=dd';⟨q,hq⟩
  exact h2 hvv _ (wL I (by rw[e];exact True.intro) hs he (zE hl' hd (rel.put k rd) dd'))
end
noncomputable def uS(td ty tx:TE):TE:=λσ H Q=>td σ H λx H1=>∃a,x=.ref a/\F9 H1 a/\ty σ H1 λy H2=>tx σ H2 λz H3=>∃kvs k,H3 a=some (.dK kvs)/\y=kV k/\kvs.length<sizeLine /\
 (∀v,fm kvs k=some v->Q v H3)/\(fm kvs k=none->Q z (aC H3 a (.dK (jz kvs k z))))
section
variable {X:Cx}{o e f:Expr}{apos cpos:Pos}{td ty tx:TE}
theorem ou(ho:PE X o td)(he:PE X e ty)(hf:PE X f tx)(m:M2 X o "setdefault" apos e f cpos):PE X (.Call (.Attribute o "setdefault" apos) [e,f] [] cpos) (uS td ty tx):=by
 intro pins s σ H Q I h;refine wpAny_Call_method m.base m.few m.line PySem.F.plainAttrs_dict PySem.F.slot_dict_setdefault PySem.F.type_dict_setdefault (bM (ho pins s σ H _ I h) λu s1 ⟨x,H1,I1,rx,a,ex,d,q1⟩=>?_);subst ex;obtain rfl:u=Value.ref a:=rx;obtain⟨t1,t2,_⟩:=DY I1 d;refine⟨t1,t2,?_⟩;rw[m.trees];refine Calls.callWith_builtin rfl (Calls.evalArgs_plain (Calls.spliced_cons (bM (he pins s1 σ H1 _ I1 q1) λiv s2 ⟨y,H2,I2,ry,q2⟩=>
  Calls.spliced_cons (bM (hf pins s2 σ H2 _ I2 q2) λfv s3 ⟨z,H3,I3,rz,kvs,k,hH,ey,hlen,g1,g2⟩=>Calls.spliced_nil ?_))))
 subst ey;exact BB I3 hH ry rz hlen (λv w' s4 hv I4 rv=>⟨v,H3,I4,rv,g1 v hv⟩) λhn s4 I4=>⟨z,_,I4,rz,g2 hn⟩
end
section
variable {X:Cx}
end
section
variable {K:Type}[DecidableEq K]
noncomputable def fD(σ:List K)(v:K):List K:=if v∈σ then σ else σ++[v]
noncomputable def met(l:List K):List K:=l.foldl fD []
theorem tW(σ:List K)(v k:K):decide (k∈fD σ v)=(decide (k∈σ)||decide (k=v)):=by
 unfold fD
 by_cases h:v∈σ
 ·rw[if_pos h]
  by_cases e:k=v
  ·subst e;simp[h]
  ·simp[e]
 ·rw[if_neg h]
  simp[Je]
theorem mi(σ:List K)(v:K):(fD σ v).length=if decide (v∈σ) then σ.length else σ.length+1:=by
 unfold fD
 by_cases h:v∈σ<;>simp[h]
theorem tN(l:List K)(v:K):met (l++[v])=fD (met l) v:=by unfold met;rw[List.foldl_append];rfl
theorem xi:∀(l σ:List K),(l.foldl fD σ).length<=σ.length+l.length
 | [],σ=>Jo _
 |v::l,σ=>by
  have h:=xi l (fD σ v);have e:=mi σ v;rw[List.foldl_cons,Jc]
  split at e<;>omega
theorem Bj(n:Nat)(l:List K)(h:l.length=n):(met l).length<=n:=by
 have:=xi l [];rw[<- h];unfold met;simpa using this
end
section
variable {prog:J3}{w:J9}{K:Type}[DecidableEq K]{knd:KeyKind prog w K}{A:J8}{R:Result->Shared->Prop}{I:Addr}{fp wr:JY}{G:Array GenState->Array GenState->Prop}{n:Nat}{P:Nat->Value->Prop}{St:Nat->Shared->Prop}
theorem Cc(W:WalksS prog w A.in1 I fp wr G n P St)(S:Addr)(hSf:S∉fp)(l:List K)(hl:l.length=n)
  (hval:∀i v,P i v->∃k,l[i]?=some k/\knd.is k v=true/\v.scannable=true) (hb:n+1<scanBound) :
  ∀(k i:Nat) (s:JW),n-i=k->i<=n->St i s ->
   s.heap.SetOf knd S (λk'=>decide (k'∈met (l.take i))) (met (l.take i)).length ->
   (∀s',Moved (S::wr) G s s'->s'.heap.SetOf knd S (λk'=>decide (k'∈met l)) (met l).length->R (.ok (.ret .none)) s') ->
   codeAny (model prog w) A (.builtin "set.update.loop" ⟨[.ref S,.ref I],[]⟩) R s:=by
 have hSw:S∉wr:=λh=>hSf (W.sub _ h);have hsub:∀b∈wr,b∈S::wr:=λb hb=>Jh _ hb;intro k
 induction k with
 |zero=>
  intro i s hk hi hst hS hR;have hin:i=n:=by omega
  subst hin;rw[<- hl,JB]at hS;refine codeAny_builtin F.entry_set_update_loop ?_;rw[Around.under_plainId F.plain_set_update_loop _];show wpAny _ A.in1 (pyNext (.ref I) >>= _) _ _ s;refine wpAny_bind (W.done s _ _ hst λs' hm=>?_);show wpAny _ A.in1 (ret Value.none) _ _ s';refine wpAny_pure (hR s' (hm.mono hsub) ?_);obtain⟨o,es,ep,t,ho,bv⟩:=hS;exact⟨o,es,ep,t,hm.heap S _ hSw ho,bv⟩
 |succ k ih=>
  intro i s hk hi hst hS hR;have hlt:i<n:=by omega
  refine codeAny_builtin F.entry_set_update_loop ?_;rw[Around.under_plainId F.plain_set_update_loop _];show wpAny _ A.in1 (pyNext (.ref I) >>= _) _ _ s;refine wpAny_bind (W.item i s _ _ hlt hst λv s' hP hst' hm=>?_);obtain⟨key,hkey,his,hsc⟩:=hval i v hP;have hS':s'.heap.SetOf knd S (λk'=>decide (k'∈met (l.take i))) (met (l.take i)).length:=by
   obtain⟨o,es,ep,tb,ho,bv⟩:=hS;exact⟨o,es,ep,tb,hm.heap S _ hSw ho,bv⟩
  show wpAny _ A.in1 (holding [v] (setAdd S v) >>= _) _ _ s';refine wpAny_bind (wpAny_holding ?_);unfold setAdd;refine wpAny_holding ?_;refine wpAny_bind (knd.pyHash (k:=key) his ?_);have hroom:(met (l.take i)).length+1<scanBound:=by have:=Bj i (l.take i) (by rw[JC];omega);omega
  refine wpAny_setAddHashed_of (knd:=knd) (s:={s' with toks:=s'.toks+1}) his hsc hS' hroom λh' hsb hS2=>?_;have ht:l.take (i+1)=l.take i++[key]:=by rw[List.take_add_one,hkey];rfl
  have hSi:h'.SetOf knd S (λk'=>decide (k'∈met (l.take (i+1)))) (met (l.take (i+1))).length:=
   SetOf_congr hS2 (λk'=>by rw[ht,tN,tW]) (by rw[ht,tN,mi])
  refine wpAny_pure ⟨plainId_quiet F.plain_set_update_loop _,ih (i+1) _ ⋯ hlt (W.frame _ s' _ _ hst' (Nat.le_succ _) λb hb o e=>?_) hSi λs'' hm'' hS''=>?_⟩
  ·rw[hsb.2 b (λh:b=S=>hSf (by rw[<- h];exact hb))];exact e
  ·refine hR s'' (Moved.trans W.gtrans ((hm.mono hsub).then_heap (Nat.le_succ _) λb o hb e=>?_) hm'') hS''
   rw[hsb.2 b (λh:b=S=>hb (by rw[h];exact List.mem_cons_self))];exact e
end
noncomputable def cJ(z:Str):List Str:=z.cps.toList.map λc=>(⟨#[c]⟩:Str)
section
variable {prog:J3}{w:J9}{A:J8}{E:JS}{s:JW}
set_option maxHeartbeats 3200000 in
theorem pd{x:Str}{t:Tok}{Q:JS}(hh:A.handled=none)(hb:x.cps.size+1<scanBound)
  (h:∀(h':Heap) (tk:Nat),h'.SetOf (strKind prog w) s.heap.objs.size (λk'=>decide (k'∈met (cJ x))) (met (cJ x)).length ->
   (∀b o,s.heap.get? b=some o->h'.get? b=some o)->Q (.ref s.heap.objs.size) {s with heap:=h',toks:=tk}) :
  wpAny (model prog w) A (call (.type "set") [.str x t]) Q E s:=by
 obtain⟨c,tl,hmro⟩:=PySem.F.called_set.mro;have hmade:=PySem.F.called_set.made;have hsub:=PySem.F.called_set.sub;refine wpAny_call (codeAny_of_tree ?_);show wpAny _ _ (callAny (.type "set") _) _ _ _;refine wpAny_pure ⟨Code.quiet_builtin _ (by decide +kernel),codeAny_builtin PySem.F.entry_type_call ?_⟩;rw[Around.under_plain (weight_type_call_type "set" [.str x t] []) rfl];have h1:=PySem.F.called_set.notType;have h2:=PySem.F.called_set.canCreate;have hct:=PySem.F.typeCall_set_1 (.str x t)
 repeat (any_goals (first | assumption | wp_step))
 refine codeAny_mono (code_set_new_1 (.str x t) (E:=E) (Q₁:=λobj s₁=>∃led:Bool,obj=.ref s.heap.objs.size/\s₁={s with heap:=s.heap.push {cls:=.type "set",dict:=none,data:=.set #[] 0 (.fresh 0 0 led)} }) λled=>⟨led,rfl,rfl⟩) λr s₁ hr=>?_;cases r with
 |error e=>exact hr
 |ok fl=>
  cases fl with
  |ret obj=>
   obtain⟨led,rfl,rfl⟩:=hr;have hS:(s.heap.push {cls:=.type "set",dict:=none,data:=.set #[] 0 (.fresh 0 0 led)}).get? s.heap.objs.size=some {cls:=.type "set",dict:=none,data:=.set #[] 0 (.fresh 0 0 led)}:=IY _ rfl;have hT:Shared.TypeIs {s with heap:=s.heap.push {cls:=.type "set",dict:=none,data:=.set #[] 0 (.fresh 0 0 led)} } (.ref s.heap.objs.size) "set":=⟨_,hS,rfl⟩;have hli:=PySem.F.called_set.init.lookup;have hbi:=PySem.F.called_set.init.bind (.ref s.heap.objs.size)
   repeat (any_goals (first | assumption | wp_step))
   refine codeAny_mono (codeAny_call_builtin (R:=wants (λr s₂=>r=.none/\∃h' tk,s₂={s with heap:=h',toks:=tk} /\
     h'.SetOf (strKind prog w) s.heap.objs.size (λk'=>decide (k'∈met (cJ x))) (met (cJ x)).length /\
     (∀b o,s.heap.get? b=some o->h'.get? b=some o)) E) PySem.F.called_set.init.plain PySem.F.entry_set_init (check_set_init_1 hT ?_)) λr₂ s₂ hr₂=>?_
   ·have hsls:=PySem.F.sub_str_set
    have hslf:=PySem.F.sub_str_frozenset;have hne:(Value.type "str" == Value.type "dict")=false:=by decide
    unfold Builtin.«set.__init__» noKeywords Builtin.Frozenset.updateFrom;generalize hPI:pyIter=PI
    wp_walk
    subst hPI;refine wpAny_pyIter_str λo St W hst=>?_;refine wpAny_bind (wpAny_runValue ?_);have hSf:s.heap.objs.size∉[(s.heap.push {cls:=.type "set",dict:=none,data:=.set #[] 0 (.fresh 0 0 led)}).objs.size]:=by
     rw[Heap.size_push];simp only[IU]
     exact Jk (Jy _)
    refine Cc (knd:=strKind prog w) ((W _ (by simp[hh])).toS) s.heap.objs.size hSf (cJ x) (by simp[cJ])
     (λi v ⟨c,u,hc,hv⟩=>⟨⟨#[c]⟩,by unfold cJ;rw[IV,Array.getElem?_toList,hc];rfl,by rw[hv];exact strKind_is _ _ _ _,by rw[hv];rfl⟩) hb (x.cps.size-0) 0 _ ⋯ (Jp _) hst ?hS0 ?hR
    case hS0=>
     exact SetOf_congr ((setObjOf_fresh (knd:=strKind prog w) led).setOf (IS _ hS) (by unfold scanBound;omega)) (λ_=>rfl) rfl
    case hR=>
     intro s' hm hS';obtain⟨h',g',d',tk',os'⟩:=s';have eg:g'=s.gens:=hm.gens;have ed:d'=s.drawn:=hm.drawn;have eo:os'=s.os:=hm.os;subst eg;subst ed;subst eo
     show wpAny _ _ _ _ _ _;refine wpAny_pure ?_;show wpAny _ _ (ret Value.none) _ _ _;refine wpAny_pure ⟨rfl,h',tk',rfl,hS',λb o' e=>?_⟩;have hb:=Jr e;refine hm.heap b o' ?_ (IS _ (IS _ e));simp only[Jg,List.not_mem_nil,or_false,not_or,Heap.size_push];exact⟨Jk hb,Jk (Nat.lt_succ_of_lt hb)⟩
   ·cases r₂ with
    |error e=>exact hr₂
    |ok fl₂=>
     cases fl₂ with
     |ret r=>
      obtain⟨rfl,h',tk,rfl,hS',hk'⟩:=hr₂
      repeat (any_goals (first | assumption | wp_step))
      exact h _ _ hS' hk'
     |_=>exact hr₂.elim
  |_=>exact hr.elim
end
noncomputable def rB(t:TE):TE:=λσ H Q=>t σ H λx H1=>∃z,x=.str z/\z.cps.size+1<scanBound/\Q (.int (met (cJ z)).length) H1
section
variable {X:Cx}{e:Expr}{t:TE}{p p2 pos pos2:Pos}
theorem yX(hc:X.calm=true)(ha:PE X e t)(g1:Gl X "len")(m1:X.mg "len"=none)(g2:Gl X "set")(m2:X.mg "set"=none)
  (he1:autoParam (starEach [.Call (.Name "set" p2) [e] [] pos2] X.env=[(false,eval (.Call (.Name "set" p2) [e] [] pos2) X.env)]) zz0._auto_1)
  (he2:autoParam (starEach [e] X.env=[(false,eval e X.env)]) zz0._auto_1) :
  PE X (.Call (.Name "len" p) [.Call (.Name "set" p2) [e] [] pos2] [] pos) (rB t):=by
 intro pins s σ H Q I h;have hl:bootBuiltins "len"=some (.builtin "len"):=by decide +kernel
 have hs:bootBuiltins "set"=some (.type "set"):=by decide +kernel
 refine wpAny_Call_Name_kw (b5 I g1 m1 hl ?_);refine PyProof.Rows.callWith_builtin1 ?_ he1 rfl;rw[he1];show wpAny _ _ (spliced [(false,eval (.Call (.Name "set" p2) [e] [] pos2) X.env)]) _ _ _;refine Calls.spliced_cons ?_;refine wpAny_Call_Name_kw (b5 (I.tok _) g2 m2 hs ?_);refine PyProof.Rows.callWith_type1 ?_ he2 rfl;rw[he2];show wpAny _ _ (spliced [(false,eval e X.env)]) _ _ _;refine Calls.spliced_cons (bM (ha pins _ σ H _ (I.tok _) h) λu s1 ⟨x,H1,I1,rx,z,ex,hz,q⟩=>Calls.spliced_nil ?_);subst ex;obtain⟨tk,rfl⟩:=rx;refine pd (I.ok.hd hc) hz λh' tk' hS hk=>Calls.spliced_nil ?_;obtain⟨o,ho,hex,es,ep,tb,hd,_,_,hn,hf⟩:=hS.objOf;have hle:=Bj z.cps.size (cJ z) (by simp[cJ]);have hb:z.cps.size<4096:=by unfold scanBound at hz;omega
 refine call_len_set ho hex hd hf (by rw[hn];have:((4096:Nat):Int)<2^63:=nofun;omega) ?_;rw[hn];exact⟨.int _,H1,(I1.kept (t':=_) hk),⟨_,rfl⟩,q⟩
end
noncomputable abbrev NT:=List (Str×Addr×List Nat)
noncomputable def uW(t:NT):List (fk×V):=t.map λx=>(Sum.inr x.1,V.ref x.2.1)
noncomputable def CU(ns:JV):List V:=ns.map fun(n:Nat)=>V.int (n:Int)
structure cH(H:Hp)(p:Addr)(t:NT):Prop where
 dict:H p=some (.dK (uW t))
 list:∀x∈t,H x.2.1=some (.lst (CU x.2.2))
 apart:(t.map (·.2.1)).Nodup
theorem cH.grow{H H':Hp}{p:Addr}{t:NT}(N:cH H p t)(k:∀a o,H a=some o->H' a=some o):cH H' p t:=⟨k _ _ N.dict,λx hx=>k _ _ (N.list x hx),N.apart⟩
theorem Bs(z:Str):∀t:NT,fm (uW t) (.inr z)=(t.find? λx=>decide (x.1=z)).map λx=>V.ref x.2.1
 | []=>rfl
 |x::t=>by
  have ih:=Bs z t;unfold uW at ih ⊢;rw[Ju,List.find?_cons]
  by_cases e:x.1=z
  ·rw[oU (by rw[e])];simp[e]
  ·rw[nS (λh=>e (Sum.inr.inj h)),ih];simp[e]
theorem cH.new{H:Hp}{p l:Addr}{t:NT}{z:Str}(N:cH H p t)(hl:H l=none)(hz:fm (uW t) (.inr z)=none) :
  cH (aC (aC H l (.lst [])) p (.dK (jz (uW t) (.inr z) (.ref l)))) p (t++[(z,l,[])]):=by
 have hpl:p≠l:=λe=>by have:=N.dict;rw[e,hl]at this;exact nomatch this
 have hx:∀x∈t,x.2.1≠l/\x.2.1≠p:=λx hx=>by
  have q:=N.list x hx
  constructor
  ·intro e;rw[e,hl]at q;exact nomatch q
  ·intro e;rw[e,N.dict]at q;exact nomatch q
 refine⟨?_,λx h=>?_,?_⟩
 ·rw[ac,zw _ hz];unfold uW;rw[Jd];rfl
 ·rcases Je.mp h with h | h
  ·rw[aj (hx x h).2,aj (hx x h).1];exact N.list x h
  ·rw[IU.mp h,aj (Ne.symm hpl),ac];rfl
 ·rw[Jd]
  refine List.nodup_append.mpr ⟨N.apart,by simp,λa ha b hb=>?_⟩;obtain⟨x,h1,rfl⟩:=JG.mp ha;rw[List.map_singleton]at hb;rw[IU.mp hb];exact(hx x h1).1
theorem cH.put{H:Hp}{p:Addr}{t:NT}{i k:Nat}{x:Str×Addr×List Nat}(N:cH H p t)(hi:t[i]?=some x) :
  cH (aC H x.2.1 (.lst (CU (x.2.2++[k])))) p (t.set i (x.1,x.2.1,x.2.2++[k])):=by
 have hm:x∈t:=IW hi;have hp:p≠x.2.1:=λe=>by have:=N.list x hm;rw[<- e,N.dict]at this;exact nomatch this
 have hlt:i<t.length:=(IR.mp hi).1;have hk:uW (t.set i (x.1,x.2.1,x.2.2++[k]))=uW t:=by
  unfold uW;apply List.ext_getElem?;intro j;rw[IV,IV,List.getElem?_set]
  by_cases e:i=j
  ·subst e;rw[if_pos rfl,if_pos hlt,hi];rfl
  ·rw[if_neg e]
 have ha:(t.set i (x.1,x.2.1,x.2.2++[k])).map (·.2.1)=t.map (·.2.1):=by
  apply List.ext_getElem?;intro j;rw[IV,IV,List.getElem?_set]
  by_cases e:i=j
  ·subst e;rw[if_pos rfl,if_pos hlt,hi];rfl
  ·rw[if_neg e]
 refine⟨by rw[aj hp,hk];exact N.dict,λy hy=>?_,by rw[ha];exact N.apart⟩;obtain⟨j,hj⟩:=List.mem_iff_getElem?.mp hy;rw[List.getElem?_set]at hj
 by_cases e:i=j
 ·rw[if_pos e,if_pos hlt]at hj
  cases hj;exact ac
 ·rw[if_neg e]at hj
  have hne:y.2.1≠x.2.1:=by
   intro q;have h1:(t.map (·.2.1))[i]?=some x.2.1:=by rw[IV,hi];rfl
   have h2:(t.map (·.2.1))[j]?=some x.2.1:=by rw[IV,hj];simp[q]
   exact e ((List.getElem?_inj (IR.mp h1).1 N.apart).mp (h1.trans h2.symm))
  rw[aj hne];exact N.list y (IW hj)
noncomputable def i8(t:NT):List (Str×List Nat):=t.map λx=>(x.1,x.2.2)
noncomputable def bN(m:List (Str×List Nat))(z:Str):List (Str×List Nat):=if z∈m.map (·.1) then m else m++[(z,[])]
theorem Ak{t:NT}{z:Str}{v:V}(h:fm (uW t) (.inr z)=some v):∃(i:Nat) (x:Str×Addr×List Nat),t[i]?=some x/\x.1=z/\v=.ref x.2.1:=by
 rw[Bs]at h;cases hf:t.find? (λx=>decide (x.1=z)) with
 |none=>rw[hf]at h;exact nomatch h
 |some x=>
  rw[hf]at h;have hv:V.ref x.2.1=v:=Option.some.inj h;obtain⟨i,hi⟩:=List.mem_iff_getElem?.mp (List.mem_of_find?_eq_some hf);have hz:=List.find?_some hf;exact⟨i,x,hi,of_decide_eq_true hz,hv.symm⟩
theorem w6(t:NT):(i8 t).map (·.1)=t.map (·.1):=by unfold i8;rw[Jf];rfl
theorem Dz{t:NT}{z:Str}(h:fm (uW t) (.inr z)=none):¬ z∈(i8 t).map (·.1):=by
 intro m;rw[w6]at m;obtain⟨x,hx,e⟩:=JG.mp m;refine Bx h (JG.mpr ⟨(.inr x.1,.ref x.2.1),JG.mpr ⟨x,hx,rfl⟩,?_⟩);show(Sum.inr x.1:fk)=Sum.inr z;rw[e]
theorem cH.setdef{H:Hp}{p l:Addr}{t:NT}{z:Str}{Q:VK}(N:cH H p t)(hl:H l=none)(hn:t.length<sizeLine)
  (h:∀(H':Hp) (t':NT) (i:Nat) (x:Str×Addr×List Nat),cH H' p t'->t'[i]?=some x->x.1=z->i8 t'=bN (i8 t) z->(∀y∈t',y∈t\/y.2.1=l)->(∀a o,a≠p->H a=some o->H' a=some o)->Q (.ref x.2.1) H') :
  ∃kvs k,aC H l (.lst []) p=some (.dK kvs)/\V.str z=kV k/\kvs.length<sizeLine/\(∀v,fm kvs k=some v->Q v (aC H l (.lst []))) /\
   (fm kvs k=none->Q (.ref l) (aC (aC H l (.lst [])) p (.dK (jz kvs k (.ref l))))):=by
 have hpl:p≠l:=λe=>by have:=N.dict;rw[e,hl]at this;exact nomatch this
 have gr:∀a o,H a=some o->aC H l (.lst []) a=some o:=λa o e=>by
  rw[aj (λq=>by rw[q,hl]at e;exact nomatch e)];exact e
 refine⟨uW t,.inr z,gr _ _ N.dict,rfl,by unfold uW;rw[IT];exact hn,λv hv=>?_,λhz=>?_⟩
 ·obtain⟨i,x,hi,hx,rfl⟩:=Ak hv
  refine h _ t i x (N.grow gr) hi hx ?_ (λy hy=>.inl hy) λa o _ e=>gr a o e;have hm:z∈(i8 t).map (·.1):=by rw[w6];exact JG.mpr ⟨x,IW hi,hx⟩
  unfold bN;rw[if_pos hm]
 ·refine h _ (t++[(z,l,[])]) t.length (z,l,[]) (N.new hl hz) (by simp) rfl ?_ (λy hy=>(Je.mp hy).imp id λq=>by rw[IU.mp q]) λa o ha e=>by rw[aj ha];exact gr a o e
  unfold bN;rw[if_neg (Dz hz)];unfold i8;rw[Jd];rfl
theorem Cq{t:NT}{i:Nat}{x:Str×Addr×List Nat}(k:Nat):i8 (t.set i (x.1,x.2.1,x.2.2++[k]))=(i8 t).set i (x.1,x.2.2++[k]):=by
 unfold i8;rw[List.map_set]
theorem kg{m:List (Str×List Nat)}{z:Str}(h:(m.map (·.1)).Nodup):((bN m z).map (·.1)).Nodup:=by
 unfold bN
 by_cases e:z∈m.map (·.1)
 ·rw[if_pos e];exact h
 ·rw[if_neg e,Jd]
  refine List.nodup_append.mpr ⟨h,by simp,λa ha b hb=>?_⟩;rw[List.map_singleton]at hb;rw[IU.mp hb];exact λq=>e ((show a=z from q)▸ha)
section
variable {X:Cx}{K:JT}{tg:Expr}
theorem D'{o e:Expr}{es:Kb}{to:TE}{t:TA}{name:Str}{apos cpos:Pos}{T id:String}{r:V->List V->Hp->VK->Prop}(hK:X.K=K)(pa:PlainAttrs T)(slot:Slot T name id)(hty:typeOf (.builtin id)=pure (.type "method_descriptor"))(hm:Eo X id r)(ho:PE X o to)(ha:PA X (e::es) t)
  (hbase:autoParam (attributeBase o name X.env (eval o X.env)=eval o X.env) zz0._auto_1)
  (hfew:autoParam (((backTo cpos (starEach (e::es) X.env)).all (λx=>!x.1)&&(backToKw cpos (keywordEach [] X.env)).all (λx=>x.1.isSome)
   && decide ((e::es).length+([]:List Keyword).length+(if([]:List Keyword).isEmpty then 0 else 1)<30))=true) zz0._auto_1)
  (hline:autoParam ((apos.endLine==cpos.line)=true) zz0._auto_1) (hs:autoParam (starEach (e::es) X.env=(false,eval e X.env)::starEach es X.env) zz0._auto_1) (hplain:autoParam ((backTo cpos (starEach es X.env)).any (·.1)=false) zz0._auto_1) :
  PE X (.Call (.Attribute o name apos) (e::es) [] cpos) (EY K T r to t):=hK▸eO pa slot hty hm ho ha hbase hfew hline hs hplain
end
end L2
namespace QL
open PySem PySem.Spec PyProof.Rows
end QL
namespace L2
open PySem PySem.Spec PyProof.Rows
section
variable {X:Cx}{CX:ia}{k:Nat}{C:Addr}{ps:J4}{sp:Sp}{x:Str}{p pos:Pos}{e:Expr}{es:Kb}{t:TA}
end
theorem nc.out{K:JT}{C:Addr}{bm:JX}{nid:String}(c:nc K C bm nid):lG K C bm nid:=by
 refine⟨?_⟩;have q:=c.exc;unfold PySem.W.excIn at q;unfold PySem.W.excOut
 revert q
 cases K.lookup C with
 |none=>exact λq=>q
 |some ob=>
  obtain⟨ty,dd,data,sl⟩:=ob;intro q
  split at q
  ·rename_i e
   cases e
   split at q
   ·rename_i hm hs
    simp only[hm,hs];simp only[Bool.and_eq_true]at q ⊢;obtain⟨⟨⟨⟨⟨a1,a2⟩,a3⟩,a4⟩,a5⟩,_⟩:=q;exact⟨⟨⟨⟨a1,a2⟩,a3⟩,a4⟩,a5⟩
   ·cases q
  ·cases q
section
variable {X:Cx}{e:Expr}{tx:TX}{i:Nat}{n x:Str}{D:Addr}{bmD:JX}{nD:String}{b₀:Stmt}{suite:List Stmt}{epos pos hpos np:Pos}{ts:Addr->TS}
end
section
variable {X:Cx}{CX:ia}{k:Nat}{C:Addr}{ps:J4}{sp:Sp}{m:Str}{pos apos:Pos}{e o:Expr}{es:Kb}{t:TA}{ta:TE}
end
section
variable {X:Cx}
end
end L2
namespace CtM
open PySem PySem.Builtin PySem.Builtin.Str QL SpM
theorem ow(c:Nat):∀(x:JV) (rows:List (List Nat)),rows≠[]->(x.foldl (SpM.step c) rows).length=rows.length+x.count c
 | [],rows,_=>by simp
 |d::x,rows,h=>by
  have h1:SpM.step c rows d≠[]:=by unfold SpM.step;split<;>simp
  rw[List.foldl_cons,ow c x _ h1,List.count_cons];unfold SpM.step
  by_cases e:d=c
  ·rw[if_pos e];subst e;simp;omega
  ·rw[if_neg e]
   have:0<rows.length:=List.length_pos_iff.mpr h;simp[e];omega
end CtM
namespace L2
open PySem PySem.Spec PyProof.Rows QL
section
variable {K:JT}{g:TG}{ti:TT}{te:TE}{σ:St}{H:Hp}{Q:List V->Hp->Prop}{α:Type}
theorem wG{as:List α}{f:α->Option V}{i:Nat}{x:α}(hx:as[i]?=some x):(as.take (i+1)).filterMap f=(as.take i).filterMap f++(f x).toList:=by
 rw[List.take_add_one,hx,List.filterMap_append];show _++List.filterMap f [x]=_;cases h:f x<;>simp[h]
theorem DT{as:List α}{f:α->Option V}(i:Nat):((as.take i).filterMap f).length<=as.length:=Jw (List.length_filterMap_le _ _) (by rw[JC];omega)
theorem kG{as:List α}(f:α->V):as.filterMap (λx=>some (f x))=as.map f:=by induction as with | nil=>rfl | cons x xs ih=>simp
theorem jn{a:Addr}{as:List α}{emb:α->V}{f:α->Option V}(S:St->Prop)(h0:S σ)(hl:∀H',az H H'->aW K H' a (as.map emb))(hn:as.length<=1000000)
  (hs:∀(i:Nat) x,as[i]?=some x->∀σ H' (N1:V->St->Hp->Prop) (N0:St->Hp->Prop),S σ->az H H'->(∀v σ2 H2,f x=some v->az H H2->S σ2->N1 v σ2 H2)->(∀σ2 H2,f x=none->az H H2->S σ2->N0 σ2 H2) ->
   g (emb x) σ H' λσ2 H3=>ti σ2 H3 λb H4=>if b=true then te σ2 H4 λv H5=>N1 v σ2 H5 else N0 σ2 H4)
  (he:∀H',az H H'->Q (as.filterMap f) H'):f_ (AD K a) g ti te σ H Q:=by
 refine lX (xs:=as.map emb) (λi acc σ H'=>az H H'/\acc=(as.take i).filterMap f/\i<=as.length/\S σ) ⟨λ_ _ e=>e,rfl,Jp _,h0⟩ ?_ ?_ ?_ ?_ ?_
 ·rintro i acc σ H' ⟨_,rfl,_⟩
  have:=DT (as:=as) (f:=f) i;exact bp ⋯
 ·rintro i acc σ H' ⟨_,_,h,_⟩
  rw[IT];exact h
 ·rintro i acc σ H' ⟨sm,_⟩
  exact hl _ sm
 ·rintro i x acc σ H' hx ⟨sm,rfl,hi,hS⟩
  have hlt:i<as.length:=by have:=(IR.mp hx).1;rwa [IT]at this
  rw[IV,IQ hlt]at hx;cases hx;have hg:as[i]?=some as[i]:=IQ hlt;refine hs i as[i] hg σ H' (λv σ2 H5=>_) (λσ2 H4=>_) hS sm (λv σ2 H2 hf s2 hS2=>⟨s2,?_,hlt,hS2⟩) (λσ2 H2 hf s2 hS2=>⟨s2,?_,hlt,hS2⟩)
  ·rw[wG hg,hf];rfl
  ·rw[wG hg,hf];simp
 ·rintro acc σ H' ⟨sm,rfl,_⟩
  have e:(as.take (as.map emb).length).filterMap f=as.filterMap f:=by rw[IT,JB]
  rw[e];exact he _ sm
theorem fu{n:Nat}{f:Nat->Option V}(S:St->Prop)(h0:S σ)(hn:n<=1000000)
  (hs:∀i,i<n->∀σ H' (N1:V->St->Hp->Prop) (N0:St->Hp->Prop),S σ->az H H'->(∀v σ2 H2,f i=some v->az H H2->S σ2->N1 v σ2 H2)->(∀σ2 H2,f i=none->az H H2->S σ2->N0 σ2 H2) ->
   g (.int (0+(i:Int))) σ H' λσ2 H3=>ti σ2 H3 λb H4=>if b=true then te σ2 H4 λv H5=>N1 v σ2 H5 else N0 σ2 H4)
  (he:∀H',az H H'->Q ((List.range n).filterMap f) H'):f_ (ze 0 n) g ti te σ H Q:=by
 refine gv (lo:=0) (n:=n) (λi acc σ H'=>az H H'/\acc=(List.range i).filterMap f/\i<=n/\S σ) ⟨λ_ _ e=>e,rfl,Jp _,h0⟩ ?_ ?_ ?_ ?_
 ·rintro i acc σ H' ⟨_,rfl,hi,_⟩
  have:=List.length_filterMap_le f (List.range i);rw[List.length_range]at this;exact bp ⋯
 ·rintro i acc σ H' ⟨_,_,h,_⟩
  exact h
 ·rintro i acc σ H' hi ⟨sm,rfl,_,hS⟩
  refine hs i hi σ H' (λv σ2 H5=>_) (λσ2 H4=>_) hS sm (λv σ2 H2 hf s2 hS2=>⟨s2,?_,hi,hS2⟩) (λσ2 H2 hf s2 hS2=>⟨s2,?_,hi,hS2⟩)
  ·rw[List.range_succ,List.filterMap_append];simp[hf]
  ·rw[List.range_succ,List.filterMap_append];simp[hf]
 ·rintro acc σ H' ⟨sm,rfl,_⟩
  exact he _ sm
end
section
variable {X:Cx}
end
end L2
namespace ThM
open PySem L2
noncomputable def cE(ks:J4)(z:Str):List Str:=if z∈ks then ks else ks++[z]
theorem mem_addNew{ks:J4}{z y:Str}:y∈cE ks z↔y∈ks\/y=z:=by
 unfold cE
 split
 ·rename_i h
  exact⟨.inl,λq=>q.elim id λe=>e▸h⟩
 ·rw[Je,IU]
section
variable {α:Type}(f:List α->List α)
noncomputable def Fx:Nat->List α->List α
 |0,s=>s
 |n+1,s=>f (Fx n s)
variable {f}
end
noncomputable abbrev NR:=Str×List Str
noncomputable def Cn(ks:J4)(r:NR):List Str:=if(∀z∈r.2,z∈ks) then cE ks r.1 else ks
noncomputable def zQ(rs:List NR)(ks:J4):List Str:=rs.foldl Cn ks
theorem nd_len{ks ms:J4}(hn:ks.Nodup)(h:∀z∈ks,z∈ms):ks.length<=ms.length:=by
 induction ks generalizing ms with
 |nil=>exact Jp _
 |cons k ks ih=>
  rw[List.nodup_cons]at hn;have hk:=h k List.mem_cons_self;have h1:=ih (ms:=ms.erase k) hn.2 λz hz=>by
   have hne:z≠k:=λe=>hn.1 (e▸hz);exact(List.mem_erase_of_ne hne).mpr (h z (Jh _ hz))
  have h2:=List.length_erase_of_mem hk;have h3:=List.length_pos_of_mem hk;rw[Jc];omega
noncomputable def DN(rs:List NR):List Str:=Fx (zQ rs) rs.length []
end ThM
namespace L2
open PySem PySem.Spec PyProof.Rows QL
section
variable {X:Cx}
end
end L2
namespace ThM
open PySem L2
section
variable {α:Type}{f:List α->List α}(μ:List α->Nat)
end
theorem kA{y:Str}:∀(zs ks:J4),y∈zs.foldl cE ks↔y∈ks\/y∈zs
 | [],ks=>by simp
 |z::zs,ks=>by
  rw[List.foldl_cons,kA zs,mem_addNew,Jg];exact⟨λh=>h.elim (λh=>h.elim .inl λe=>.inr (.inl e)) λh=>.inr (.inr h),λh=>h.elim (λh=>.inl (.inl h)) λh=>h.elim (λe=>.inl (.inr e)) .inr⟩
noncomputable def zN(ks:J4)(r:NR):List Str:=if r.1∈ks then r.2.foldl cE ks else ks
noncomputable def yB(rs:List NR)(ks:J4):List Str:=rs.foldl zN ks
def Eu(ks:J4)(r:NR):Prop:=r.1∈ks/\∀z∈r.2,z∈ks
instance (ks:J4)(r:NR):Decidable (Eu ks r):=by unfold Eu;infer_instance
noncomputable def DC(st:Str)(rs:List NR):List Str:=Fx (yB rs) rs.length [st]
noncomputable def CZ(rs:List NR)(r:NR):Bool:=decide (∀z∈r.2,z∈DN rs)
noncomputable def Fk(rs:List NR):List NR:=rs.filter (CZ rs)
noncomputable def FN(st:Str)(rs:List NR):List Str:=DC st (Fk rs)
noncomputable def keep(st:Str)(rs:List NR)(r:NR):Bool:=decide (r.1∈FN st rs)&&CZ rs r
end ThM
namespace L2
open PySem PySem.Spec PyProof.Rows
section
variable {X:Cx}{body:List Stmt}{h₀:ExceptHandler}{hs:List ExceptHandler}{tb:TS}{pos:Pos}
theorem Cd{e:Expr}{ta:TE}{f:Str}{K:JT}(hK:X.K=K)(he:PE X e ta)(hb:attributeBase e f X.env (eval e X.env)=eval e X.env):PE X (.Attribute e f pos) (BN K ta f):=hK▸e8 he hb
theorem A7{es' es:Kb}{x1:Nat}{p:Pos}{te:TE}{t:TA}(ha:PE X (.Tuple es' x1 p) te)(hr:PA X es t):PA X (.Tuple es' x1 p::es) (hZ te t):=aa ha hr rfl
theorem xL{a b:Expr}{p:Pos}{t:Option Expr}{l:Nat}{env:Env}:swapsWith (.Subscript a b p) t l env=pure false:=rfl
noncomputable def rW(xs ys:List V):Bool:=(List.range (min xs.length ys.length)).all (λj=>match xs[j]?,ys[j]? with | some x,some y=>uV x y | _,_=>true)&&xs.length==ys.length
noncomputable def Eb(K:JT):R2:=λx y H Q=>∃a b xs ys,x=.ref a/\y=.ref b/\bc K H a xs/\bc K H b ys/\xs.all qt=true/\ys.all qt=true/\Q (.bl (rW xs ys)) H
theorem A0(hu:X.A.units+64<cLine):aZ X (compareOp .Eq) (Eb X.K):=by
 intro pins s σ H x y v u Q I rx ry h;obtain⟨a,b,xs,ys,rfl,rfl,ha,hb,fx,fy,q⟩:=h;cases rx;cases ry
 obtain⟨its,ra,pa,_⟩:=I.tuple ha;obtain⟨its2,rb,pb,_⟩:=I.tuple hb;have l1:=ra.length;have l2:=rb.length
 have q':=SeqAt.RcAt.tuples (A:=X.A) (s:=s) (e:=λj=>match xs[j]?,ys[j]? with | some x,some y=>uV x y | _,_=>true) (show s.heap.IsTuple a its.toArray from pa) (show s.heap.IsTuple b its2.toArray from pb) ⋯ (λj g1 g2=>by
  have g1':j<its.length:=by simpa using g1
  have g2':j<its2.length:=by simpa using g2
  have x1:xs[j]?=some xs[j]:=IQ ⋯;have y1:ys[j]?=some ys[j]:=IQ ⋯;obtain⟨w1,f1,rr1⟩:=ra.get x1;obtain⟨w2,f2,rr2⟩:=rb.get y1;rw[IQ g1']at f1;rw[IQ g2']at f2;cases f1;cases f2
  simp only[JI,x1,y1];exact gm rr1 rr2 (JH.mp fx _ (IW x1)) (JH.mp fy _ (IW y1)))
 refine q' _ _ _ _ ⟨.bl _,H,I,rfl,?_⟩;rw[IZ,IZ,<- l1,<- l2];exact q
end
section
variable {X:Cx}{es:Kb}{t:TA}{te:TE}
structure WA(X:Cx)(es:Kb)(t:TA):Prop where
 out:PA X es t
structure WE(X:Cx)(e:Expr)(t:TE):Prop where
 out:PE X e t
structure WB(X:Cx)(b:List Stmt)(t:TS):Prop where
 out:o9 X b t
theorem wb:WA X [] nN:=⟨ad⟩
theorem Ca{x:Str}{j:Nat}{p:Pos}(hr:WA X es t):WA X (.Constant (.str x) j p::es) (hZ (tC (.str x)) t):=⟨bg hr.out⟩
theorem EO{es':Kb}{x1:Nat}{p:Pos}(ha:WE X (.Tuple es' x1 p) te)(hr:WA X es t):WA X (.Tuple es' x1 p::es) (hZ te t):=⟨A7 ha.out hr.out⟩
theorem zW{x1:Nat}{p:Pos}(h:WA X es t):WE X (.Tuple es x1 p) (BV t):=⟨aP h.out⟩
theorem Ek{p:Pos}(h:WA X es t):WE X (.List es p) (Ad t):=⟨bw h.out⟩
structure WS(X:Cx)(s:Stmt)(t:TS):Prop where
 out:PS X s t
theorem Ei{i:Nat}{x:Str}{b:Expr}{tb:TE}{pos pos' p lp:Pos}(hN:X.N.Nodup)(hi:X.N[i]?=some x)(hx:Loc X.env.scope x)(he:WE X (.List es lp) te)(hb:PE X b tb)(hs:xq b)(hf:autoParam (X.fn x=true\/X.env.scope.names.lookup x=some .local) zz3._auto_1):WS X (.Assign [.Name x pos'] (.Subscript (.List es lp) b p) pos) (v1 (CW (wF X.K) te tb) (gQ i)):=⟨aM hN hi hx (ay kj he.out hb hs) xL hf⟩
theorem Cz{st:Stmt}{bv:List Stmt}{u v:TS}(h1:WS X st u)(h2:o9 X bv v):WB X (st::bv) (vT u v):=⟨ag h1.out h2⟩
theorem xX{st:Stmt}{bv:List Stmt}{u v:TS}(h1:PS X st u)(h2:WB X bv v):o9 X (st::bv) (vT u v):=ag h1 h2.out
end
end L2
namespace L2
open PySem PySem.Spec PyProof.Rows QL
section
variable {X:Cx}
end
end L2
namespace PySem
open PySem.Calls PyProof.Rows
theorem pC:entryFor table "proto.unchain"=some Builtin.«proto.unchain»:=entryFor_of_tree (by kernel_rfl)
section
variable {prog:J3}{w:J9}{A:J8}{E:JS}{env:Env}
variable {nm q:Str}{C N:Addr}{bs bm:JX}{hdct:Bool}{sn:J4}{sub:JX}{ab:Bool}{col:Option Bool}{dd:Ka}{k0 k1 k2 k3 k5:Option Value}{newId:String}
def rC(h:Heap)(e:Addr)(oe:Obj)(h':Heap):Prop:=(∀b,b≠e->h'.get? b=h.get? b)/\∃oe' vs',h'.get? e=some oe'/\oe'.cls=oe.cls/\oe'.dict=oe.dict/\oe'.data=.fields vs'/\vs'[1]?=some .none/\∃cx,vs'[2]?=some cx
theorem uC{s:JW}{e ha:Addr}{oe oh:Obj}{vs hs:Array Value}{Q:Flow->Shared->Prop}(hh:A.handled=some (.ref ha))(hne:ha≠e)(he:s.heap.get? e=some oe)(hd:oe.data=.fields vs)(hz:vs.size=6)(h1:vs[1]?=some .none)
  (hho:s.heap.get? ha=some oh) (hhd:oh.data=.fields hs) (hh2:hs[2]?=some .none) (h:∀h',rC s.heap e oe h'->E (.ref e) {s with heap:=h' }):wpAny (model prog w) A (raiseNew (.ref e):Sem Flow) Q E s:=by
 unfold raiseNew;refine wpAny_bind (wpAny_handled ?_);rw[hh];have hb:((Value.ref ha:Value) != .ref e)=true:=by simp[hne]
 dsimp only;rw[if_pos hb];refine wpAny_bind (wpAny_holding (wpAny_runValue (codeAny_builtin pC ?_)));show wpAny _ _ (field (.ref ha) 2 >>= _) _ _ _;refine wpAny_bind (wpAny_field hho hhd hh2 ?_);rw[if_pos nofun];refine wpAny_bind (wpAny_pure (wpAny_pure ?_));show wpAny _ _ (updateField e 2 (.ref ha) >>= _) _ _ _;have hz2:2<vs.size:=by omega
 refine wpAny_bind (show wpAny _ _ (setField (.ref e) 2 (.ref ha)) _ _ _ from wpAny_setField he hd hz2 (wpAny_throw (h _ ⟨λb hb=>IX _ _ (Ne.symm hb),_,_,Jb _ he (Obj.isFreed_of_fields (Obj.data_mapFields hd _)),Obj.cls_mapFields _ _,hU _ _,Obj.data_mapFields hd _,?_,?_⟩)))
 ·rw[Array.getElem?_setIfInBounds_ne nofun];exact h1
 ·exact⟨.ref ha,by rw[Array.getElem?_setIfInBounds_self_of_lt hz2]⟩
theorem r_{s:JW}{x c:Sem Value}{ha:Addr}{Q:Flow->Shared->Prop}(hbase:bm.contains (.type "BaseException")=true)(hh:A.handled=some (.ref ha))
  (hc:∀s Q,Q Value.none s->wpAny (model prog w) A c Q E s)
  (h:wpAny (model prog w) A x (λv s₁=>∃e oe vs oh hs,v=.ref e/\s₁.heap.get? C=some (excClassObj nm q C N bs bm hdct sn sub ab col dd k0 k1 k2 k3 k5 newId)/\s₁.heap.get? e=some oe/\oe.cls=.ref C/\oe.data=.fields vs/\vs.size=6/\vs[1]?=some .none/\ha≠e /\
   s₁.heap.get? ha=some oh/\oh.data=.fields hs/\hs[2]?=some .none/\∀h',rC s₁.heap e oe h'->E (.ref e) {s₁ with heap:=h' }) E s) :
  wpAny (model prog w) A (raiseStmt env (some x) (some c)) Q E s:=by
 have hcB:(Value.ref C::bm).contains (.type "BaseException")=true:=by rw[List.contains_cons,hbase,Bool.or_true]
 unfold raiseStmt;refine wpAny_bind (wpAny_mono h (λv s₁ h₁=>?_) λ_ _ x=>x);obtain⟨e,⟨oc,od,dt,sl⟩,vs,oh,hs,rfl,hC,he,hcls,hd,hz,h1,hne,hho,hhd,hh2,hE⟩:=h₁;dsimp only at hcls hd;subst hcls hd;have hee:C≠e:=λz=>by rw[<- z,hC]at he;cases he
 obtain⟨hp,g,d,tk,os⟩:=s₁;refine wpAny_bind (wpAny_holding (hc _ _ ?_));refine wpAny_bind (wpAny_pure ?_);dsimp only;refine wpAny_bind (wpAny_holding ?_);unfold excFromValue
 repeat (first | with_reducible refine wpAny_loadPart_at he ?_ | with_reducible refine wpAny_loadPart_at hC ?_ | (with_reducible refine wpAny_isSubtype_exc hC ?_;rw[hcB]) | wp_step)
 have hv1:((vs.setIfInBounds 3 Value.none).setIfInBounds 4 (Value.bool true))[1]?=some .none:=by rw[Array.getElem?_setIfInBounds_ne nofun,Array.getElem?_setIfInBounds_ne nofun];exact h1
 rw[show((λx:Array Value=>x.setIfInBounds 4 (Value.bool true)) ((λx:Array Value=>x.setIfInBounds 3 Value.none) vs))[1]?=some Value.none from hv1];refine wpAny_pure ?_;rw[if_neg nofun];refine wpAny_pure ?_;have u1:∀b,b≠e->((hp.update e (Obj.mapFields λx=>x.setIfInBounds 3 Value.none)).update e (Obj.mapFields λx=>x.setIfInBounds 4 (Value.bool true))).get? b=hp.get? b:=λb hb=>by rw[IX _ _ (Ne.symm hb),IX _ _ (Ne.symm hb)]
 have he1:(hp.update e (Obj.mapFields λx=>x.setIfInBounds 3 Value.none)).get? e=some {cls:=.ref C,dict:=od,data:=.fields (vs.setIfInBounds 3 Value.none),slots:=sl}:=Jb _ he (Obj.isFreed_of_fields (vs:=vs.setIfInBounds 3 Value.none) rfl);have he2:((hp.update e (Obj.mapFields λx=>x.setIfInBounds 3 Value.none)).update e (Obj.mapFields λx=>x.setIfInBounds 4 (Value.bool true))).get? e=some {cls:=.ref C,dict:=od,data:=.fields ((vs.setIfInBounds 3 Value.none).setIfInBounds 4 (Value.bool true)),slots:=sl}:=Jb _ he1 (Obj.isFreed_of_fields (vs:=(vs.setIfInBounds 3 Value.none).setIfInBounds 4 (Value.bool true)) rfl);refine uC (s:=⟨_,g,d,tk,os⟩) hh hne he2 rfl (by simp[hz]) hv1 ((u1 ha hne).trans hho) hhd hh2 λh' wc=>hE h' ⟨λb hb=>(wc.1 b hb).trans (u1 b hb),?_⟩;exact wc.2
variable {bmB bmN:JX}{B Bn nid initId inN:String}{K:JT}
end
section
variable {cp:Value->Prop}{M:Model}{A:J8}{E:JS}{s:JW}{base:Heap}{env:Env}{outer:List Env}{L e:Addr}{Q:Unit->Shared->Prop}
theorem BQ{cls fl:Value}{od:Ka}{l:List Env}(x:eu cp base l e cls od fl s.heap)(h:∀h',eu cp base l e cls od (rawInt L) h'->s.heap.UpToSlots h'->Q () {s with heap:=h' }):wpAny M A (setFlight (.ref e) (some L)) Q E s:=by
 obtain⟨oe,vs,T,oT,ts,he,hc,ho,hd,h1,hnT,hTe,hT,hdT,h3,hcx⟩:=x.tr;have hsz:3<ts.size:=(Array.getElem?_eq_some_iff.mp h3).1;have oth:∀b,b≠T->(s.heap.update T (Obj.mapFields (·.setIfInBounds 3 (rawInt L)))).get? b=s.heap.get? b:=λb hb=>IX _ _ (Ne.symm hb);have nrec:∀b o,s.heap.get? b=some o->(∀vs,o.data≠.fields vs)->b≠T:=λb o hb hnf q=>by rw[q,hT]at hb;injection hb with hb;subst hb;exact hnf ts hdT
 unfold setFlight;refine wpAny_bind (wpAny_field he hd h1 ?_);rw[if_pos (show(Value.ref T != Value.none)=true from by simp)];refine wpAny_setField hT hdT hsz (h _ ⟨λb o hb=>(oth b λq=>by rw[q,hnT]at hb;cases hb).trans (x.st b o hb),x.new,x.ff.of_keeps λb o hb hnf=>⟨o,(oth b (nrec b o hb hnf)).trans hb,rfl⟩,?_⟩ λb o hb hnf=>⟨o.slots,(oth b (nrec b o hb hnf)).trans hb⟩);exact⟨oe,vs,T,_,_,(oth e (Ne.symm hTe)).trans he,hc,ho,hd,h1,hnT,hTe,Jb _ hT (Obj.isFreed_of_fields (Obj.data_mapFields hdT _)),Obj.data_mapFields hdT _,by simp[hsz],hcx⟩
theorem EL{E':JS}{cls fl:Value}{od:Ka}{l:List Env}(hf:env.frame=some L)(x:eu cp base l e cls od fl s.heap)(h:∀h',eu cp base l e cls od (rawInt L) h'->s.heap.UpToSlots h'->E' (.ref e) {s with heap:=h' }):cameBackBy M A env E' (.ref e) s:=by
 obtain⟨oe,vs,T,oT,ts,he,hc,ho,hd,h1,_⟩:=x.tr;unfold cameBackBy;refine wpAny_bind (wpAny_field he hd h1 ?_);rw[if_neg (show ¬ ((Value.ref T==Value.none)=true) from by simp),hf];exact BQ x h
theorem Ds{cls:Value}{od:Ka}(hf:env.frame=some L)(x:eu cp base (env::outer) e cls od (rawInt L) s.heap)
  (h:∀h',eu cp base outer e cls od .none h'->s.heap.UpToSlots h'->Q () {s with heap:=h' }):wpAny M A (leaving env (.ref e)) Q E s:=by
 obtain⟨oe,vs,T,oT,ts,he,hc,ho,hd,h1,hnT,hTe,hT,hdT,h3,hcx⟩:=id x.tr;unfold leaving noteFrame;simp only[hf];refine wpAny_bind (wpAny_bind (wpAny_field he hd h1 ?_));rw[if_pos (show(Value.ref T != Value.none)=true from by simp)];refine wpAny_bind (wpAny_field hT hdT h3 ?_);rw[if_pos (show(rawInt L==rawInt L)=true from by simp)];refine wpAny_pure ?_;exact gz x λh2 y2 u2=>h h2 y2.drop u2
end
end PySem
namespace L2
open PySem PySem.Spec PyProof.Rows
def DM(ea:Addr)(cls:Value)(od:Ka)(h:Heap):Prop:=∃o vs,h.get? ea=some o/\o.cls=cls/\o.dict=od/\o.data=.fields vs/\vs[2]?=some .none
noncomputable abbrev El(ea:Addr)(cls:Value)(od:Ka):HO:=.ext (DM ea cls od)
theorem Inv.caughtC{X:Cx}{pins:JU}{σ:St}{H H':Hp}{s s':JW}{B h6:Heap}{ea:Addr}{cls:Value}{od:Ka}(I:Inv X pins σ H s)(x:Fly0 X.prog X.w X.stack H s B H' s')(fl:EH B X.stack ea cls od .none h6)(up:s'.heap.UpToSlots h6)(hn:H' ea=none) :
  Inv X pins σ (aC H' ea (El ea cls od)) {s' with heap:=h6}:=by
 obtain⟨oe,vs,T,oT,ts,he,hc,hod,hd,_,_,_,_,_,_,cx,h2,ecx⟩:=fl.tr;have ecx:cx=.none:=ecx;subst ecx;have newB:B.get? ea=none:=fl.new;have nfr:ea∉gj X.stack:=λhm=>by
  obtain⟨_,o,ho,nf⟩:=fl.ff.mem hm;rw[he]at ho;cases ho;exact nf _ hd
 have nold:s.heap.get? ea=none:=by
  cases z:s.heap.get? ea with
  |none=>rfl
  |some o=>
   obtain⟨o',eB⟩:=x.old ea o z nfr;rw[newB]at eB;cases eB
 have u:=x.un2 fl.st up I.stkFree;have ok6:=lx x.hok x.cov x.st fl.st;have nq:∀b o,H' b=some o->b≠ea:=λb o e z=>by rw[z,hn]at e;cases e
 refine I.call' (ch:=[]) x.os ⟨u.keep,u.slot,λb o e n hx=>?_,u.there,λb xs q=>?_,λb o y q=>?_,λb qs q=>?_⟩ (λb o e=>?_) x.bare (λb z=>absurd z (by simp))
 ·have nb:b≠ea:=λz=>by rw[z,nold]at e;cases e
  rw[aj nb];exact u.free b o e n hx
 ·have q':=u.tups b xs q
  rw[aj (nq _ _ q')];exact q'
 ·have q':=u.frzs b o y q
  rw[aj (nq _ _ q')];exact q'
 ·obtain⟨more,q'⟩:=u.tbls b qs q
  exact⟨more,by rw[aj (nq _ _ q')];exact q'⟩
 ·by_cases hb:b=ea
  ·subst hb
   rw[ac]at e;cases e;exact⟨⟨oe,vs,he,hc,hod,hd,h2⟩,⟨oe,he⟩,λh1 h2 ⟨o,ws,e1,e2,e3,e4,e5⟩ k=>⟨o,ws,k o e1,e2,e3,e4,e5⟩⟩
  ·rw[aj hb]at e
   exact(ok6 b o e).stay (λ_ _ _ q=>q) (λc q=>by rw[aj (nq _ _ q)];exact q) λc xs q=>by rw[aj (nq _ _ q)];exact q
noncomputable abbrev vK(P:J3)(w:J9):ia:=Dy (λ_=>True) P w
section
variable {P:J3}{w:J9}{K:JT}{mg:JZ}{base:Heap}{N:J4}{qual:Str}{scope:Scope}{f:Addr}{cd:Value}{A:J8}{outer:List Env}{s:JW}{H:Hp}{E E1:XK}{CX:ia}
theorem dI{cp:Value->Prop}(hE:∀c d H',E1 c d H'->E c d H'):cu (Dy cp P w) (cW (vK P w) P w K mg base N qual scope f cd A outer s H E) E1:=by
 intro pins σ H1 s1 e s' I x;obtain⟨ea,cls,od,B,H',rfl,fly,hn,q⟩:=x;obtain⟨st,new,ff,oe,vs,T,oT,ts,he,hc,ho,hd,h1,hnT,hTe,hT,hdT,h3,cx,h2,_⟩:=fly.fl;refine Ap (cp:=λ_=>True) I.ok.frames rfl ⟨st,new,ff,oe,vs,T,oT,ts,he,hc,ho,hd,h1,hnT,hTe,hT,hdT,h3,cx,h2,trivial⟩ λh' fl2 up=>?_;exact⟨ea,cls,od,B,H',rfl,Fly0.up I rfl rfl rfl rfl rfl fly.toFly0 fl2 up,hn,hE _ _ _ q⟩
theorem cF.okW{x qual:Str}{st:Stmt}{f:Addr}{fd:J0}{N ps:J4}{k:Nat}{sp:Sp}(F:cF K x qual st f fd)(S:aE N ps (ak st))(len:∀vs H Q E,sp vs H Q E->vs.length=ps.length)
  (hbody:∀(cdv:Value) (A:J8) (outer:List Env) (s:JW) (H:Hp) (vs:List V) (Q:VK) (E:XK),b_ k (A.deeper (envOfC qual (ak st) s.heap.objs.size f cdv))->sp vs H Q E ->
   ∃t,o9 (cW (vK P w) P w K mg base N qual (ak st) f cdv A outer s H E) (bj st) t/\t {nx:=λ_ H'=>Q .non H',rt:=Q} (start N vs) H):bb P w K mg base (vK P w) (k+1) f fd ps sp:=by
 obtain⟨oc,od,kV,doc,pm,an,cdv,ct,osl,rfl,lk,hcd⟩:=F.ex;exact AR lk hcd S len λA outer s H vs Q E hr hsp=>hbody cdv A outer s H vs Q E hr hsp
end
section
variable {X:Cx}{e e₀:Expr}{bv:Kb}{tx:TX}{t:TA}{x y:Str}{C D:Addr}{bmD:JX}{nD:String}{rpos pos pos2 hpos np np2 cpos npos:Pos}{kd:Nat}{E:XK}
end
end L2
namespace PySem
open PySem.Calls PyProof.Rows
section
variable {prog:J3}{w:J9}{A:J8}{E:JS}{env:Env}
variable {nm q:Str}{C N:Addr}{bs bm bmB bmN:JX}{hdct:Bool}{sn:J4}{sub:JX}{ab:Bool}{col:Option Bool}{dd:Ka}{k0 k1 k2 k3 k5:Option Value}{newId B Bn nid initId inN:String}{K:JT}
theorem lI{s:JW}(Fn:ExcBaseFacts Bn newId inN bmN)(hBn:bmB.contains (.type Bn)=true)(F:ExcBaseFacts B nid initId bmB){x:Str}{np cpos pos npos:Pos}{kd:Nat}{args:Kb}{fI ha:Addr}{Q:Flow->Shared->Prop}
  (hbase:bm.contains (.type "BaseException")=true) (hh:A.handled=some (.ref ha)) (hplain:(backTo cpos (starEach args env)).any (·.1)=false) (hi:PySem.W.findIn K (.ref C) "__init__"=some (some (.ref fI))) (hf:PySem.W.typeIn K (.ref fI)=some (.type "function"))
  (h:wpAny (model prog w) A (eval (.Name x np) env) (λf s₁=>f=.ref C/\wpAny (model prog w) A (evalArgs (.ref C) true (backTo cpos (starEach args env)) [])
   (λa s₂=>a.kw=[]/\a.pos.length<=sizeLine/\s₂.heap.get? C=some (excClassObj nm q C N bs bm hdct sn sub ab col dd k0 k1 k2 k3 k5 newId)/\K.In s₂.heap/\OwnTail s₂.heap bmB bm /\
    ∀h' e,Heap.MadeExcOf s₂.heap h' e (.ref C) a.pos->wpAny (model prog w) (A.under (.builtin "type.__call__" ⟨.ref C::a.pos,[]⟩)) (call (.ref fI) (.ref e::a.pos))
     (λr s'=>r=.none/\∃oe vs oh hs,s'.heap.get? C=some (excClassObj nm q C N bs bm hdct sn sub ab col dd k0 k1 k2 k3 k5 newId)/\s'.heap.get? e=some oe/\oe.cls=.ref C/\oe.data=.fields vs/\vs.size=6/\vs[1]?=some .none/\ha≠e /\
      s'.heap.get? ha=some oh/\oh.data=.fields hs/\hs[2]?=some .none/\∀h'',rC s'.heap e oe h''->E (.ref e) {s' with heap:=h'' }) E {s₂ with heap:=h' }) E s₁) E s) :
  wpAny (model prog w) A (exec (.Raise (some (.Call (.Name x np) args [] cpos)) (some (.Constant .none kd npos)) pos) env) Q E s:=by
 rw[arm_exec_Raise];simp only[evalOpt,Option.map];refine wpAny_bind (wpAny_standAt (r_ (C:=C) (nm:=nm) (q:=q) (N:=N) (bs:=bs) (bm:=bm) (hdct:=hdct) (sn:=sn) (sub:=sub) (ab:=ab) (col:=col) (dd:=dd) (k0:=k0) (k1:=k1) (k2:=k2) (k3:=k3) (k5:=k5) (newId:=newId) hbase hh (λs Q hq=>wpAny_bind (PyProof.Rows.Constant_none (wpAny_bind (wpAny_standAt (wpAny_pure hq))))) (wpAny_bind (wpAny_mono (wpAny_Call_ofName (wpAny_mono h (λf s₁ h₁=>?_) λ_ _ x=>x)) (λv s₃ h₃=>wpAny_bind (wpAny_standAt (wpAny_pure h₃))) λ_ _ x=>x))));obtain⟨rfl,h₁⟩:=h₁;unfold callWith;refine wpAny_bind (wpAny_holding (wpAny_mono h₁ (λa s₂ h₂=>wpAny_bind (wpAny_standAt ?_)) λ_ _ x=>x));obtain⟨apos,akw⟩:=a;obtain⟨hkw,hlen,hC,hX,T,h₂⟩:=h₂;obtain rfl:akw=[]:=hkw;obtain⟨hp,g,d,tk,os⟩:=s₂;simp only[hplain];refine wpAny_bind (wpAny_keeperOf_exc hC ?_);refine wpAny_bind (iE (hrest:=hlen) Fn hBn F T hX hC hi hf λh' e hm=>wpAny_mono (h₂ h' e hm) (λr s' hr=>⟨hr.1,wpAny_bind (wpAny_holding (wpAny_point (wpAny_pure ?_)))⟩) λ_ _ x=>x);obtain⟨_,oe,vs,oh,hs,a1,a2,a3,a4,a5,a6,a7,a8,a9,FR,Fa⟩:=hr;exact⟨e,oe,vs,oh,hs,rfl,a1,a2,a3,a4,a5,a6,a7,a8,a9,FR,Fa⟩
end
end PySem
namespace L2
open PySem PySem.Spec PyProof.Rows
def wS(X:Cx)(E:XK):Prop:=∀(ea:Addr) (pins:JU) (σ:St) (H2:Hp) (s2:JW) (hm:Heap) (H3:Hp) (s3:JW) (e C:Addr) (od:Ka) (oe:Obj) (h7:Heap),Inv X pins σ H2 s2->Inv X pins σ H3 s3->s2.heap.get? e=none ->
 (∀b o,s2.heap.get? b=some o->hm.get? b=some o)->Un (gj X.stack) [] (aC H2 e (xn e (.ref C) none)) H3 hm s3.heap->s3.os=s2.os->H3 e=some (xn e (.ref C) od)->s3.heap.get? e=some oe->oe.cls=.ref C->oe.dict=od->rC s3.heap e oe h7->E (.ref C) od (jO H3 e) ->
 notedBy (model X.prog X.w) (X.held ea).A X.env (cameBackBy (model X.prog X.w) X.A X.env X.xe) (.ref e) {s3 with heap:=h7}
section
variable {P:J3}{w:J9}{K:JT}{mg:JZ}{base:Heap}{N:J4}{qual:Str}{scope:Scope}{f:Addr}{cd:Value}{A:J8}{outer:List Env}{s:JW}{H:Hp}{E E1:XK}
theorem u8(hE:∀c d H',E1 c d H'->E c d H'):wS (cW (vK P w) P w K mg base N qual scope f cd A outer s H E) E1:=by
 intro ea pins σ H2 s2 hm H3 s3 e C od oe h7 I2 I3 new keep un os3 he3 g1 g2 g3 wc q;obtain⟨w1,oe',vs',p1,p2,p3,p4,p5,cx,p6⟩:=wc;have ne:∀b o,s2.heap.get? b=some o->b≠e:=λb o z y=>by rw[y,new]at z;cases z
 have h2e:H2 e=none:=by
  cases z:H2 e with
  |none=>rfl
  |some o=>
   obtain⟨ob,hob⟩:=(I2.hok e o z).there;rw[new]at hob;cases hob
 generalize hX:cW (vK P w) P w K mg base N qual scope f cd A outer s H E=X at *;have hP:X.prog=P:=by rw[<- hX];rfl
 have hw':X.w=w:=by rw[<- hX];rfl
 have hin:∀env∈X.stack,∀b,env.frame=some b->b∈e::gj X.stack:=λenv he b hb=>.tail _ (List.mem_filterMap.mpr ⟨env,he,hb⟩);have hff:=PySem.W.funFrames_hide I3.stack hin;have u0:∀b,b≠e->H2 b=none->aC H2 e (xn e (.ref C) none) b=none:=λb hb n=>by rw[aj hb];exact n
 have hBe:(PySem.W.hideAll s3.heap (e::gj X.stack)).get? e=none:=PySem.W.hideAll_none _ (List.mem_cons_self ..);have st7:∀b o,(PySem.W.hideAll s3.heap (e::gj X.stack)).get? b=some o->h7.get? b=some o:=λb o z=>by
  have hb:b≠e:=λy=>by rw[y,hBe]at z;cases z
  rw[w1 b hb];exact PySem.W.of_hideAll _ z
 have enf:∀vs,oe'.data=.fields vs->True:=λ_ _=>trivial;have ff7:h7.FunFrames (PySem.W.hideAll s3.heap (e::gj X.stack)) X.stack:=hff.of_keeps λb o z nf=>by
  by_cases hb:b=e
  ·subst hb
   obtain⟨⟨oo,ws,q1,q2,q3,q4,q5⟩,_,_⟩:=(show bt X.prog X.w H3 s3.heap b (xn b (.ref C) od) from I3.hok b _ he3);rw[q1]at z;cases z;exact absurd q4 (nf ws)
  ·exact⟨o,by rw[w1 b hb];exact z,rfl⟩
 have fly0:Fly0 X.prog X.w X.stack H2 s2 (PySem.W.hideAll s3.heap (e::gj X.stack)) (jO H3 e) {s3 with heap:=h7}:=by
  refine⟨st7,ff7,⟨λb o z n hb _=>?_,λb o z n hb _=>?_,λb o z n _=>?_,λb o z _=>?_,λb xs z=>?_,λb o y z=>?_,λb ps z=>?_⟩,λb o z=>?_,λb o z=>?_,λb o z hb=>?_,os3,I3.bare⟩
  ·show h7.get? b=some o
   rw[w1 b (ne b o z)];exact un.keep b o (keep b o z) (u0 b (ne b o z) n) hb (by simp)
  ·obtain⟨sl,y⟩:=un.slot b o (keep b o z) (u0 b (ne b o z) n) hb (by simp)
   exact⟨sl,by show h7.get? b=_;rw[w1 b (ne b o z)];exact y⟩
  ·rw[bT (ne b o z)]
   exact un.free b o (keep b o z) (u0 b (ne b o z) n) (by simp)
  ·obtain⟨o',y⟩:=un.there b o (keep b o z) (by simp)
   exact⟨o',by show h7.get? b=_;rw[w1 b (ne b o z)];exact y⟩
  ·have hb:b≠e:=aJ z h2e
   rw[bT hb];exact un.tups b xs (by rw[aj hb];exact z)
  ·have hb:b≠e:=aJ z h2e
   rw[bT hb];exact un.frzs b o y (by rw[aj hb];exact z)
  ·have hb:b≠e:=aJ z h2e
   rw[bT hb];exact un.tbls b ps (by rw[aj hb];exact z)
  ·have hb:b≠e:=λy=>by rw[y,dw]at z;cases z
   rw[bT hb]at z;refine(I3.hok b o z).stay (λc u hc y=>?_) (λc y=>by rw[bT (λx=>by rw[x,he3]at y;cases y)];exact y) λc xs y=>by rw[bT (λx=>by rw[x,he3]at y;cases y)];exact y
   have hc':c≠e:=λx=>by
    subst x;rcases hc with rfl | hc
    ·exact hb rfl
    ·rw[he3]at hc;cases hc
   show h7.get? c=some u;rw[w1 c hc'];exact y
  ·have hb:b≠e:=λy=>by rw[y,dw]at z;cases z
   rw[bT hb]at z;obtain⟨ob,hob⟩:=(I3.hok b o z).there;refine⟨ob,PySem.W.hideAll_get _ hob λhm=>?_⟩;rcases Jg.mp hm with y | y
   ·exact hb y
   ·rw[I3.stkFree b y]at z;cases z
  ·obtain⟨o',z'⟩:=un.there b o (keep b o z) (by simp)
   refine⟨o',PySem.W.hideAll_get _ z' λhm=>?_⟩;rcases Jg.mp hm with y | y
   ·exact ne b o z y
   ·exact hb y
 subst hX;refine Ao (cp:=λ_=>True) (s:={s3 with heap:=h7}) (I3.held ea).ok.frames fly0.ff rfl p1 fly0.st hBe p4 p5 ⟨cx,p6,trivial⟩ λh8 fl8 up8=>?_;rw[p2,p3,g2,g3]at fl8;refine EL (s:={s3 with heap:=h8}) rfl fl8 λh9 fl9 up9=>?_;refine Ds (s:={s3 with heap:=h9}) rfl fl9 λh10 fl10 up10=>?_;exact⟨e,.ref C,od,_,jO H3 e,rfl,Fly0.up (s':={s3 with heap:=h7}) I2 rfl rfl rfl rfl rfl fly0 fl10 ((up8.trans up9).trans up10),dw,hE _ _ _ q⟩
end
structure t_(k:Nat)(A:J8):Prop where
 dp:A.depth+3*k+5<recursionLimit
 un:A.units+16*k+200<cLine
theorem t_.make{k:Nat}{A:J8}(r:t_ (k+1) A)(C:Addr)(us:JX)(kw:List (Str×Value)):t_ k (A.under (.builtin "type.__call__" ⟨.ref C::us,kw⟩)):=
 ⟨by have:=r.dp;rw[nu];omega,by have:=r.un;rw[oS];omega⟩
structure wN(P:J3)(w:J9)(K:JT)(mg:JZ)(base:Heap)(CX:ia)(k:Nat)(f:Addr)(fd:J0)(ps:J4)(sp:Sp):Prop where
 len:∀vs H Q E,sp vs H Q E->vs.length=ps.length
 run:∀(A:J8) (outer:List Env) (s:JW) (H:Hp) (args:Args) (us:JX) (vs:List V) (Q:VK) (E:XK),t_ k A->nQ P w K mg base A outer s H->BindsTo s fd args (ps.zip us)->aY vs us->sp vs H Q E ->
  codeAny (model P w) A (.call (.ref f) args) (CR CX outer P w H s Q E) s
noncomputable abbrev Cx.wild(X:Cx):Cx:={X with calm:=false}
theorem nQ.away{P:J3}{w:J9}{K:JT}{mg:JZ}{base:Heap}{A:J8}{outer:List Env}{s:JW}{H:Hp}(e:nQ P w K mg base A outer s H):nQ P w K mg base {A with handled:=none} outer s H:=
 ⟨e.frames,e.mod,e.bs,e.bsz,e.funs,e.frf,e.hok,e.bare⟩
theorem Dh{CX:ia}{P:J3}{w:J9}{K:JT}{mg:JZ}{base:Heap}{k:Nat}{f:Addr}{name qual:Str}{params:Arguments}{body:List Stmt}{scope:Scope}{dV kV doc pm cdv ct oc:Value}{an od:Ka}
  {osl:Array (Option Value)} {N ps:J4} {sp:Sp} (lk:K.lookup f=some ⟨oc,od,.func (PySem.W.fnOf name qual params body scope dV kV doc pm an cdv ct),osl⟩) (hcd:PySem.W.codeIn K cdv qual=true) (S:aE N ps scope)
  (len:∀vs H Q E,sp vs H Q E->vs.length=ps.length)
  (hbody:∀(A:J8) (outer:List Env) (s:JW) (H:Hp) (vs:List V) (Q:VK) (E:XK),sp vs H Q E ->
   ∃t,o9 (cW CX P w K mg base N qual scope f cdv A outer s H E).wild body t/\t {nx:=λ_ H'=>Q .non H',rt:=Q} (start N vs) H) :
  wN P w K mg base CX (k+1) f (PySem.W.fnOf name qual params body scope dV kV doc pm an cdv ct) ps sp:=by
 refine⟨len,λA outer s H args us vs Q E hr e0 hb r hsp=>?_⟩;have hl:=len _ _ _ _ hsp;have KX:K.In s.heap:=e0.mod.kin.keeps λb o e=>(e0.bs b o e).1;have lim:s.heap.NoLimit:=e0.mod.nolimit.keeps λb o e=>(e0.bs b o e).1;have hkind:∀y∈ps.zip us,scope.names.lookup y.1=some .local\/(scope.names.lookup y.1=some .cell/\((cellsFrom (s.heap.objs.size+1) scope.names []).lookup y.1).isSome=true):=λ⟨n,v⟩ hy=>by
  rcases S.par n (List.of_mem_zip hy).1 with q | q
  ·exact .inl q
  ·exact .inr ⟨q,PySem.W.cellsFrom_some _ _ _ (.inl q)⟩
 refine codeAny_call_function (by have:=hr.dp;omega) (KX _ _ lk) rfl S.co S.gen rfl (PySem.W.codeRec_of KX hcd) (hb _ _ _ _ ?_);refine wpAny_newFunctionEnv_cells S.kind hkind λenv he s1 x=>?_;subst he;refine⟨lim.keeps x.toInCall.keep,codeAny_func ?_⟩;obtain⟨t,ht,hq⟩:=hbody A outer s H vs Q E hsp;have I0:Inv (cW CX P w K mg base N qual scope f cdv {A with handled:=none} outer s H E) [] (start N vs) H s1:=pN S rfl e0.away hl r x;have I:Inv (cW CX P w K mg base N qual scope f cdv A outer s H E).wild [] (start N vs) H s1:=
  ⟨⟨I0.ok.mod,I0.ok.kind,I0.ok.glob,I0.ok.blt,I0.ok.above,I0.ok.inj,I0.ok.has,I0.ok.cab,(λz=>by cases z),Around.frames_deeper e0.frames,I0.ok.stk,I0.ok.exf,I0.ok.bs,I0.ok.bsz,I0.ok.noex,I0.ok.exfs,I0.ok.funs,I0.ok.frf⟩,I0.os,I0.bare,I0.base,I0.loc,I0.cell,I0.free,I0.freeC,I0.pin,I0.hok,I0.len⟩
 refine wpAny_mono (ht [] s1 (start N vs) H _ I hq) (λfl s' hs=>?_) λe s' hs=>hs;have fin:∀{σ':St} {H':Hp} {v:V} {u:Value},Inv (cW CX P w K mg base N qual scope f cdv A outer s H E).wild [] σ' H' s'->bq v u->Q v H'->CE outer P w H s Q u s':=
  fun{σ' H' v u} J rv q=>⟨v,H',J.os,J.bare,J.base,J.hok,rv,q⟩
 cases fl with
 |ret u=>
  obtain⟨v,σ',H',J,rv,q⟩:=hs;exact fin J rv q
 |next=>
  obtain⟨σ',H',J,q⟩:=hs;exact fin (v:=V.non) (u:=Value.none) J rfl q
 |brk=>
  obtain⟨_,_,_,q⟩:=hs;exact False.elim q
 |cont=>
  obtain⟨_,_,_,q⟩:=hs;exact False.elim q
theorem cF.okQ{P:J3}{w:J9}{K:JT}{mg:JZ}{base:Heap}{x qual:Str}{st:Stmt}{f:Addr}{fd:J0}{N ps:J4}{k:Nat}{sp:Sp}(F:cF K x qual st f fd)(S:aE N ps (ak st))(len:∀vs H Q E,sp vs H Q E->vs.length=ps.length)
  (hbody:∀(cdv:Value) (A:J8) (outer:List Env) (s:JW) (H:Hp) (vs:List V) (Q:VK) (E:XK),sp vs H Q E ->
   ∃t,o9 (cW bD P w K mg base N qual (ak st) f cdv A outer s H E).wild.nox (bj st) t/\t {nx:=λ_ H'=>Q .non H',rt:=Q} (start N vs) H):wN P w K mg base bD (k+1) f fd ps sp:=by
 obtain⟨oc,od,kV,doc,pm,an,cdv,ct,osl,rfl,lk,hcd⟩:=F.ex;refine Dh lk hcd S len λA outer s H vs Q E hsp=>?_;obtain⟨t,h,q⟩:=hbody cdv A outer s H vs Q E hsp;exact⟨t,h.nox,q⟩
structure Fc(P:J3)(w:J9)(K:JT)(mg:JZ)(base:Heap)(k:Nat)(C:Addr)(fn:Str):Prop where
 ex:∃(bm bmN:JX) (newId Bn inN B nid initId:String) (fI:Addr) (fd:J0) (ps:J4),lG K C bm newId/\ExcBaseFacts Bn newId inN bmN/\bm.contains (.type Bn)=true/\ExcBaseFacts B nid initId bm /\
  PySem.W.findIn K (.ref C) "__init__"=some (some (.ref fI))/\PySem.W.typeIn K (.ref fI)=some (.type "function")/\wN P w K mg base bD k fI fd ps (gE C fn)/\cI K fd ps []
section
variable {X:Cx}{e e₀:Expr}{tx:TX}{t:TA}{x y:Str}{C D:Addr}{fn:Str}{k:Nat}{bmD:JX}{nD:String}{rpos pos pos2 hpos np np2 cpos npos:Pos}{kd:Nat}{E:XK}
noncomputable def lJ(K:JT)(D C:Addr)(fn:Str)(E:XK)(tx:TX)(t:TA):TS:=λDe σ H=>
 tx σ H (λv H1=>De.rt v H1) (λcls od H'=>∃C' bm nid,cls=.ref C'/\lG K C' bm nid/\mh K C' D/\∀ea,H' ea=none->t σ (aC H' ea (El ea (.ref C') od)) λvs H1=>vs.length<=sizeLine/\H1 ea=some (El ea (.ref C') od)/\∃v,vs=[v]/\∀d,H1 d=none->E (.ref C) (some d) (aC H1 d (.xd [(fn,v)])))
theorem sJ(c:Fc X.prog X.w X.K X.mg X.base k C fn)(hr:b_ (k+1) X.A)(hst:X.stack=X.env::X.outer)(hfr:X.env.frame=some X.env.locals)(he:PX (dz X.prog X.w) X e tx)(hgl:Gl X x)(hm:X.mg x=some (.ref D))(cD:lG X.K D bmD nD)(hbase:bmD.contains (.type "BaseException")=true)
  (hgC:Gl X y) (hmC:X.mg y=some (.ref C)) (hx:wS X E) (ha:∀ea,PA (X.held ea) [e₀] t)
  (hd:autoParam ((x==("__debug__":Str))=false) zz2._auto_1) (hdC:autoParam ((y==("__debug__":Str))=false) zz2._auto_1)
  (hes:autoParam (starEach [e₀] X.env=(false,eval e₀ X.env)::starEach [] X.env) zz0._auto_1) (hpl:autoParam ((backTo cpos (starEach [] X.env)).any (·.1)=false) zz0._auto_1) :
  PS X (.Try [.Return (some e) rpos] [.ExceptHandler (some (.Name x np)) none [.Raise (some (.Call (.Name y np2) [e₀] [] cpos)) (some (.Constant .none kd npos)) pos2] hpos] [] [] pos) (lJ X.K D C fn E tx t):=by
 obtain⟨bmB,bmN,newId,Bn,inN,B0,nid0,initId,fI,fd,ps,c1,c2,c3,c4,hi,hf,F,hb⟩:=c.ex;intro pins s σ H De I h;refine wpAny_Try_except ?_;refine wpAny_execs_cons (wpAny_Return_some ?_);refine bM (he pins s σ H _ _ _ I h ?_) λv s1 ⟨z,H1,I1,r1,q1⟩=>?_
 ·rintro H1 s1 ev s' I1 ⟨ea,cls,od,B,H',rfl,fly,hn,C',bm',nid',rfl,cC,un,hsu⟩
  have hfl:EH B (X.env::X.outer) ea (.ref C') od .none s'.heap:=by rw[<- hst];exact fly.fl
  refine Ab (by rw[I.ok.frames,hst]) hfr hfl λh4 held4 up4=>?_;refine gz held4 λh5 fl5 up5=>?_;have J5:=I1.caughtC fly.toFly0 (by rw[hst];exact fl5) (up4.trans up5) hn;refine wpAny_handleBy_cons (codeAny_handlers_test ?_) (by intro q;cases q);refine dW (J5.held ea) hgl hm ?_ hd;obtain⟨tl,N,nm,q,bs,hdct,sn,sub,ab,col,dd,k0,k1,k2,k3,k5,hC,T,dd1,cd1,sl1,hlk,hmro⟩:=cC.obj J5.kIn;obtain⟨tl',N',nm',q',bs',hdct',sn',sub',ab',col',dd',k0',k1',k2',k3',k5',hD,TD,_⟩:=cD.obj J5.kIn;obtain⟨dd2,cd2,sl2,hlk2,hsub⟩:=un;rw[hlk]at hlk2;cases hlk2;rw[hmro]at hsub;obtain⟨ob,_,hob,hobc,_⟩:=fl5.there;refine fY hC hD hob hobc (TD.hasType hbase) hsub (codeAny_handlers_suite ?_);refine gz fl5 λh6 fl6 up6=>?_;have J6:=I1.caughtC fly.toFly0 (by rw[hst];exact fl6) ((up4.trans up5).trans up6) hn;refine wpAny_execs_cons ?_;obtain⟨tl2,N2,nm2,q2,bs2,hdct2,sn2,sub2,ab2,col2,ddd2,j0,j1,j2,j3,j5,hC2,T2,_⟩:=c1.obj J6.mod.kin;refine lI (K:=X.K) (fI:=fI) (C:=C) (nm:=nm2) (q:=q2) (N:=N2) (bs:=bs2) (bm:=tl2) (hdct:=hdct2) (sn:=sn2) (sub:=sub2) (ab:=ab2) (col:=col2) (dd:=ddd2) (k0:=j0) (k1:=j1) (k2:=j2) (k3:=j3) (k5:=j5)
   c2 c3 c4 (ha:=ea) (T2.hasType c4.hasBase) rfl (by rw[hes];show(false||(backTo cpos (starEach [] X.env)).any (·.1))=false;rw[hpl];rfl) hi hf (dW (J6.held ea) hgC hmC ⟨rfl,?_⟩ hdC)
  rw[hes];have ha':=ha ea cpos pins _ σ _ _ (J6.held ea) (hsu ea hn);rw[hes]at ha';refine Calls.evalArgs_plain (wpAny_mono ha' (λus s₂ ⟨vs,H2,I2,r2,z2,hea,v,ev,qE⟩=>⟨rfl,by rw[<- r2.length];exact z2,I2.bk _ _ hC2,I2.kIn,T2.keeps I2.bk,λh' e2 hx'=>?_⟩) λ_ _ f=>f.elim);subst ev;have I2':Inv X pins σ H2 s₂:=I2.unheld I.ok.hd;obtain⟨u,rfl,ru⟩:=r2.one;obtain⟨t0,he0,ht0,htt⟩:=hx'.there;have ne:∀b o,s₂.heap.get? b=some o->b≠e2:=λb o z y=>by rw[y,hx'.new]at z;cases z
  have h1e:H2 e2=none:=by
   cases z:H2 e2 with
   |none=>rfl
   |some o=>
    obtain⟨ob,hob⟩:=(I2'.hok e2 o z).there;rw[hx'.new]at hob;cases hob
  have hea2:ea≠e2:=λz=>by rw[z,h1e]at hea;cases hea
  have Im:Inv X pins σ (aC H2 e2 (xn e2 (.ref C) none)) {s₂ with heap:=h' }:=by
   refine I2'.call' (s':={s₂ with heap:=h' }) (ch:=[]) rfl ⟨λb o z _ _ _=>hx'.keeps b o z,λb o z _ _ _=>⟨o.slots,hx'.keeps b o z⟩,λb o z n _=>by rw[aj (ne b o z)];exact n,λb o z _=>⟨o,hx'.keeps b o z⟩,λb xs z=>by rw[aj (aJ z h1e)];exact z,λb o y z=>by rw[aj (aJ z h1e)];exact z,λb ps z=>⟨#[],by rw[aj (aJ z h1e),z];simp⟩⟩ (λb o z=>?_) I2'.bare (λb z=>absurd z (by simp))
   by_cases hb:b=e2
   ·subst hb
    rw[ac]at z;cases z;exact⟨⟨_,_,he0,rfl,rfl,rfl,rfl,rfl,rfl⟩,⟨_,he0⟩,ld⟩
   ·rw[aj hb]at z
    exact(I2'.hok b o z).stay (λc u _ y=>hx'.keeps c u y) (λc y=>by rw[aj (aJ y h1e)];exact y) λc xs y=>by rw[aj (aJ y h1e)];exact y
  have hsp:gE C fn [.ref e2,v] (aC H2 e2 (xn e2 (.ref C) none)) (λr H3=>r=.non/\H3 ea=some (El ea (.ref C') od)/\∃d,H3 e2=some (xn e2 (.ref C) (some d))/\E (.ref C) (some d) (jO H3 e2)) (λ_ _ _=>False):=by
   refine⟨e2,v,rfl,ac,λd hd'=>?_⟩;have hde:d≠e2:=λy=>by rw[y,ac]at hd';cases hd'
   rw[aj hde]at hd';have hdea:ea≠d:=λz=>by rw[<- z,hea]at hd';cases hd'
   refine⟨rfl,by rw[aj hea2,aj hdea,aj hea2];exact hea,d,ac,?_⟩;have ee:jO (aC (aC (aC H2 e2 (xn e2 (.ref C) none)) d (.xd [(fn,v)])) e2 (xn e2 (.ref C) (some d))) e2=aC H2 d (.xd [(fn,v)]):=by
    funext b
    by_cases hb:b=e2
    ·rw[hb,dw,aj (Ne.symm hde)];exact h1e.symm
    ·rw[bT hb,aj hb]
     by_cases hbd:b=d
     ·rw[hbd,ac,ac]
     ·rw[aj hbd,aj hb,aj hbd]
   rw[ee];exact qE d hd'
  have hl:([Value.ref e2,u]++[]).length=ps.length:=(F.len _ _ _ _ hsp:[V.ref e2,v].length=ps.length);have r3:aY [V.ref e2,v] [Value.ref e2,u]:=.cons rfl (.cons ru .nil);have hrq:t_ (k+1) (X.held ea).A:=⟨hr.dp,hr.un⟩;refine wpAny_call (codeAny_mono (F.run _ X.stack _ _ ⟨[.ref e2,u],[]⟩ [.ref e2,u] _ _ _ (hrq.make C [u] []) ((Im.held ea).env0.make C [u] []) (hb _ [Value.ref e2,u] Im.kIn hl) r3 hsp) λr s' hq'=>?_);cases r with
  |error ev=>exact False.elim hq'
  |ok fl=>
   cases fl with
   |ret u'=>
    obtain⟨v',H3,os3,bare3,un3,hok3,rv,ev,hea3,d,he3,qE3⟩:=hq';subst ev;have I3:=Im.call' (ch:=[]) os3 un3 hok3 bare3 (λb z=>absurd z (by simp));obtain⟨⟨oe,ws,g1,g2,g3,g4,g5⟩,_,_⟩:=(show bt X.prog X.w H3 s'.heap e2 (xn e2 (.ref C) (some d)) from I3.hok e2 _ he3);obtain⟨⟨oo,hs,f1,f2,f3,f4,f5⟩,_,_⟩:=(show bt X.prog X.w H3 s'.heap ea (El ea (.ref C') od) from I3.hok ea _ hea3);refine⟨rv,oe,ws,oo,hs,I3.bk _ _ hC2,g1,g2,g4,?_,g5.1,hea2,f1,f4,f5,λh7 wc=>?_⟩
    ·exact g5.2.2
    ·exact hx ea pins σ H2 s₂ h' H3 s' e2 C (some d) oe h7 I2' I3 hx'.new hx'.keeps un3 os3 he3 g1 g2 g3 wc qE3
   |next=>exact False.elim hq'
   |brk=>exact False.elim hq'
   |cont=>exact False.elim hq'
 ·exact⟨z,σ,H1,I1,r1,q1⟩
end
end L2
namespace PySem
section
variable {cp:Value->Prop}{M:Model}{A:J8}{E:JS}{s:JW}{base:Heap}{env:Env}{outer:List Env}{L e:Addr}{Q:Unit->Shared->Prop}
end
end PySem
namespace L2
open PySem PySem.Spec PyProof.Rows
section
variable {P:J3}{w:J9}{K:JT}{mg:JZ}{base:Heap}{N:J4}{qual:Str}{scope:Scope}{f:Addr}{cd:Value}{A:J8}{outer:List Env}{s:JW}{H:Hp}{E E1:XK}
end
section
variable {X:Cx}
end
section
variable {P:J3}{w:J9}{K:JT}{mg:JZ}{base:Heap}{N:J4}{qual:Str}{scope:Scope}{f:Addr}{cd:Value}{A:J8}{outer:List Env}{s:JW}{H:Hp}{E E1:XK}
end
open QL
section
variable {X:Cx}
end
section
variable {prog:J3}{w:J9}{A:J8}{E:JS}{s:JW}
end
section
variable {X:Cx}{e:Expr}{t:TE}{p p2 pos pos2:Pos}
end
end L2
namespace L2
open PySem PySem.Spec PyProof.Rows QL
section
variable {X:Cx}
noncomputable def zA:V->List V->Hp->VK->Prop:=λx xs H Q=>∃z y,x=.str z/\xs=[.str y]/\∀i:Int,Q (.int i) H
theorem B6:Eo X "str.find" zA:=by
 intro pins s σ H x xs v us Q I rx rv h;obtain⟨z,y,rfl,rfl,q⟩:=h;obtain⟨t,rfl⟩:=rx;obtain⟨u,rfl,ru⟩:=rv.one;obtain⟨t',rfl⟩:=ru;exact SC.find ⟨.int _,H,I.tok _,⟨_,rfl⟩,q _⟩
end
theorem az.sqT{K:JT}{H H':Hp}{a:Addr}{xs:List V}(e:az H H')(h:bc K H a xs):bc K H' a xs:=by
 rcases h with(h | ⟨o,h⟩) | h
 ·exact .inl (.inl (e _ _ h))
 ·exact .inl (.inr ⟨o,e _ _ h⟩)
 ·exact .inr h
section
variable {K:JT}{g:TG}{tb:TS}{D:gY}{σ:St}{H:Hp}
end
def b0(H H':Hp):Prop:=∀b xs,H b=some (.tup xs)->H' b=some (.tup xs)
theorem b0.of{H H':Hp}(s:az H H'):b0 H H':=λb xs h=>s b _ h
theorem b0.put{H:Hp}{l:Addr}{xs:List V}{o:HO}(h:H l=some (.lst xs)):b0 H (aC H l o):=λb ys hb=>by
 rw[aj (λe=>by rw[e,h]at hb;cases hb)];exact hb
mutual
noncomputable def bH(H:Hp):Dt->V->Prop
 | .int i,v=>v=.int i
 | .tup ds,v=>∃a xs,v=.ref a/\H a=some (.tup xs)/\aU H ds xs
 |_,_=>False
noncomputable def aU(H:Hp):List Dt->List V->Prop
 | [],xs=>xs=[]
 |d::ds,xs=>∃x r,xs=x::r/\bH H d x/\aU H ds r
end
mutual
theorem bH.up{H H':Hp}(e:b0 H H'):∀(d:Dt) {v:V},bH H d v->bH H' d v
 | .int i,v,h=>by unfold bH at h ⊢;exact h
 | .tup ds,v,h=>by unfold bH at h ⊢;obtain⟨a,xs,r,hs,hd⟩:=h;exact⟨a,xs,r,e _ _ hs,aU.up e ds hd⟩
 | .non,v,h=>by unfold bH at h;exact h.elim
 | .bl b,v,h=>by unfold bH at h;exact h.elim
 | .str x,v,h=>by unfold bH at h;exact h.elim
 | .lst ds,v,h=>by unfold bH at h;exact h.elim
theorem aU.up{H H':Hp}(e:b0 H H'):∀(ds:List Dt) {xs:List V},aU H ds xs->aU H' ds xs
 | [],xs,h=>by unfold aU at h ⊢;exact h
 |d::ds,xs,h=>by unfold aU at h ⊢;obtain⟨x,r,e0,h1,h2⟩:=h;exact⟨x,r,e0,bH.up e d h1,aU.up e ds h2⟩
end
theorem aU.cons{H:Hp}{d:Dt}{ds:List Dt}{x:V}{xs:List V}(h:bH H d x)(t:aU H ds xs):aU H (d::ds) (x::xs):=by unfold aU;exact⟨x,xs,rfl,h,t⟩
theorem aU.nil{H:Hp}:aU H [] []:=by unfold aU;rfl
theorem aU.uncons{H:Hp}{d:Dt}{ds:List Dt}{xs:List V}(h:aU H (d::ds) xs):∃x r,xs=x::r/\bH H d x/\aU H ds r:=by unfold aU at h;exact h
theorem aU.length{H:Hp}:∀{ds:List Dt} {xs:List V},aU H ds xs->xs.length=ds.length
 | [],_,h=>by unfold aU at h;rw[h];rfl
 |d::ds,xs,h=>by
  obtain⟨x,r,rfl,_,h2⟩:=h.uncons;simp[aU.length h2]
theorem aU.app{H:Hp}:∀{ds es:List Dt} {xs ys:List V},aU H ds xs->aU H es ys->aU H (ds++es) (xs++ys)
 | [],es,xs,ys,h,k=>by unfold aU at h;subst h;exact k
 |d::ds,es,xs,ys,h,k=>by
  obtain⟨x,r,rfl,h1,h2⟩:=h.uncons;exact aU.cons h1 (aU.app h2 k)
theorem bH.node{H:Hp}{a:Addr}{i:Int}{ds:List Dt}{xs:List V}(h:H a=some (.tup (V.int i::xs)))(t:aU H ds xs):bH H (.tup (.int i::ds)) (.ref a):=by
 unfold bH;exact⟨a,_,rfl,h,aU.cons (by unfold bH;rfl) t⟩
section
variable {np:Nat->Nat}{num:Str->Option Nat}
end
theorem oy:∀{ns:List Int} {us:JX},aY (ns.map V.int) us->∃ps:List (Int×Tok),us.toArray=intItems ps.toArray/\ps.map (·.1)=ns
 | [],us,r=>⟨[],by have:=r.zero;subst this;simp[intItems],rfl⟩
 |n::ns,us,r=>by
  cases r with
  |cons h t=>
   obtain⟨tk,rfl⟩:=h;obtain⟨ps,e1,e2⟩:=oy t;refine⟨(n,tk)::ps,?_,by rw[Ju,e2]⟩;have:=congrArg Array.toList e1;unfold intItems at this ⊢;simp at this ⊢;exact this
section
variable {X:Cx}
theorem iV(hc:X.calm=true):fb X (.builtin "sum") (λxs H Q=>∃(p:Addr) (ns:List Int),xs=[.ref p]/\aW X.K H p (ns.map V.int)/\Q (.int ns.sum) H):=by
 intro pins s σ H xs us Q I r h;obtain⟨p,ns,rfl,hs,q⟩:=h;obtain⟨u,rfl,ru⟩:=r.one;cases ru;obtain⟨its,rv,pl,_⟩:=I.list hs;obtain⟨ps,e1,e2⟩:=oy rv;refine sum_intListG (xs:=ps.toArray) (I.ok.hd hc) (by rw[<- e1];exact pl.isList) λh' tk t' hk=>?_;have e3:preSum (numAt ps.toArray) ps.toArray.size=ns.sum:=by
  rw[preSum_eq,List.take_of_length_le (by simp),<- e2]
 rw[e3];exact⟨.int _,H,I.kept (t':=tk) hk,⟨_,rfl⟩,q⟩
theorem rY:bootBuiltins "sum"=some (.builtin "sum"):=by decide +kernel
end
section
variable {prog:J3}{w:J9}{A:J8}{R:Result->Shared->Prop}{I:Addr}{fp wr:JY}{n:Nat}{P:Nat->Value->Prop}{St:Nat->Heap->Prop}
def oE(val:Nat->Int)(j:Nat)(M:Int):Prop:=(∃i,i<j/\val i=M)/\∀i,i<j->val i<=M
theorem oE.next{val:Nat->Int}{j:Nat}{M:Int}(h:oE val j M):oE val (j+1) (if val j>M then val j else M):=by
 obtain⟨⟨i,hi,e⟩,h2⟩:=h
 by_cases c:val j>M
 ·rw[if_pos c]
  refine⟨⟨j,Jy _,rfl⟩,λk hk=>?_⟩
  by_cases hk2:k=j
  ·rw[hk2];exact Int.le_refl _
  ·have:=h2 k ⋯;omega
 ·rw[if_neg c]
  refine⟨⟨i,⋯,e⟩,λk hk=>?_⟩
  by_cases hk2:k=j
  ·rw[hk2];omega
  ·exact h2 k ⋯
theorem Ci(val:Nat->Int):oE val 1 (val 0):=⟨⟨0,nofun,rfl⟩,λi hi=>by
 have:i=0:=by omega
 rw[this];exact Int.le_refl _⟩
set_option maxHeartbeats 2000000 in
theorem Av(kw:List (Str×Value))(W:Walks prog w A.in1 I fp wr n P St)(val:Nat->Int)(hval:∀i v,P i v->∃t,v=.int (val i) t)(B:Addr)(hB:B∉fp) :
  ∀(m j:Nat) (s:JW) (M:Int) (t:Tok) (c:Nat),n-j=m->1<=j->j<=n->St j s.heap->oE val j M ->
  s.heap.get? B=some {cls:=.type "list",dict:=none,data:=.seq #[.int M t,.int M t] c,slots:=#[]} ->
  (∀M' t' h' tk,oE val n M'->(∀b o,b∉wr->b≠B->s.heap.get? b=some o->h'.get? b=some o)->R (.ok (.ret (.int M' t'))) {s with heap:=h',toks:=tk}) ->
  codeAny (model prog w) A (.builtin "max.loop" ⟨[.ref I,.none,.ref B],kw⟩) R s:=by
 have hBw:B∉wr:=λx=>hB (W.sub _ x);have nm:(toString "max" ++ toString ".loop":String)="max.loop":=by decide
 have cmp:=CmpOf.ints_gt (prog:=prog) (w:=w) (A:=A.in1) val hval;intro m
 induction m with
 |zero=>
  intro j s M t c hm h1 hj st eJ eB ok;have ej:j=n:=by omega
  subst ej;refine codeAny_builtin F.entry_max_loop ?_;rw[Around.under_plainId F.plain_max_loop _];show wpAny _ A.in1 (seqItems? (.ref B) >>= _) _ _ s;refine wpAny_bind (wpAny_seqItems eB rfl ?_);show wpAny _ A.in1 (tryCatch (pyNext (.ref I)) _ >>= _) _ _ s;refine wpAny_bind (wpAny_tryCatch (W.done s _ _ st λh' tk kp=>?_));have eB':=kp B _ hBw eB;show wpAny _ A.in1 (updateSeq B (λ_=>#[]) >>= _) _ _ _;refine wpAny_bind (wpAny_updateSeq eB' rfl (wpAny_bind (wpAny_letGo (wpAny_pure ?_))));exact ok M t _ tk eJ λb o h1 h2 e=>(IX _ _ (Ne.symm h2)).trans (kp b o h1 e)
 |succ m ih=>
  intro j s M t c hm h1 hj st eJ eB ok;have hlt:j<n:=by omega
  refine codeAny_builtin F.entry_max_loop ?_;rw[Around.under_plainId F.plain_max_loop _];show wpAny _ A.in1 (seqItems? (.ref B) >>= _) _ _ s;refine wpAny_bind (wpAny_seqItems eB rfl ?_);show wpAny _ A.in1 (tryCatch (pyNext (.ref I)) _ >>= _) _ _ s;refine wpAny_bind (wpAny_tryCatch (W.item j s _ _ hlt st λv h' tk hP st' kp=>?_));have eB':=kp B _ hBw eB;obtain⟨t2,rfl⟩:=hval j v hP;show wpAny _ A.in1 (tryCatch (holding [.int (val j) t2,.int (val j) t2] (richCompare .Gt (.int (val j) t2) (.int M t) >>= _)) _ >>= _) _ _ _;refine wpAny_bind (wpAny_tryCatch (wpAny_holding (wpAny_bind (richCompare_gives (op:=.Gt) (typeIs_int _ _ t2) (typeIs_int _ _ t) F.slot_int_gt F.entry_int_gt (F.args_int_gt_2 _ _) (gives_int_gt _ _ t2 t) (λx=>nomatch x) ?_))));refine wpAny_bind (wpAny_holding (wpAny_truthy_bool ?_));refine wpAny_bind (wpAny_letGo (wpAny_pure ?_));have top':=eJ.next
  by_cases cc:val j>M
  ·rw[decide_eq_true cc]
   simp only[if_true];refine wpAny_bind (wpAny_updateSeq eB' rfl (wpAny_bind (wpAny_letGo ?_)));rw[nm];rw[if_pos cc]at top';refine wpAny_pure ⟨plainId_quiet F.plain_max_loop _,ih (j+1) _ (val j) t2 _ ⋯ ⋯ hlt (W.frame _ _ _ st' λb hb o e=>?_) top' (Jb _ eB' rfl) λM' t' h2 tk2 tp kp2=>?_⟩
   ·exact(IX _ _ (λx:B=b=>hB (by rw[x];exact hb))).trans e
   ·exact ok M' t' h2 tk2 tp λb o x1 x2 e=>kp2 b o x1 x2 ((IX _ _ (Ne.symm x2)).trans (kp b o x1 e))
  ·rw[decide_eq_false cc]
   simp only[Bool.false_eq_true,if_false];refine wpAny_bind (wpAny_letGo ?_);rw[nm];rw[if_neg cc]at top';refine wpAny_pure ⟨plainId_quiet F.plain_max_loop _,ih (j+1) _ M t c ⋯ ⋯ hlt st' top' eB' λM' t' h2 tk2 tp kp2=>?_⟩;exact ok M' t' h2 tk2 tp λb o x1 x2 e=>kp2 b o x1 x2 (kp b o x1 e)
end
section
variable {prog:J3}{w:J9}{A:J8}{E:JS}{s:JW}
theorem yg(a d:Value):argsOk "max" ⟨[a],[("default",d)]⟩:=by unfold argsOk;kernel_rfl
set_option maxHeartbeats 2000000 in
theorem kX{l:Addr}{xs:Array (Int×Tok)}{d:Int}{t0:Tok}{Q:JS}(hh:A.handled=none)(hl:s.heap.IsList l (intItems xs))
  (ok:∀M t h' tk,(xs.size=0/\M=d)\/(0<xs.size/\oE (numAt xs) xs.size M)->(∀b o,s.heap.get? b=some o->h'.get? b=some o)->Q (.int M t) {s with heap:=h',toks:=tk}) :
  wpAny (model prog w) A (call (.builtin "max") [.ref l] [("default",.int d t0)]) Q E s:=by
 have nm:(toString "max" ++ toString ".loop":String)="max.loop":=by decide
 have sg:∀sig,Manifest.signature? "max"=some sig->Bind.checkArgs "max" sig ⟨[.ref l],[("default",.int d t0)]⟩=pure ():=λsig e=>by
  have a:=yg (.ref l) (.int d t0)
  simpa only[argsOk,e]using a
 refine wpAny_call (codeAny_call_builtin F.plain_max F.entry_max ?_);have body:wpAny (model prog w) A.in1 (Builtin.«max» ⟨[.ref l],[("default",.int d t0)]⟩) (λfin s'=>match fin with
   | .done f=>(match(Except.ok f:Result) with | .ok (.ret v)=>Q v s' | .ok _=>False | .error e=>E e s')
   | .again c'=>c'.quiet=true/\codeAny (model prog w) A c' (λr s'=>match r with | .ok (.ret v)=>Q v s' | .ok _=>False | .error e=>E e s') s') E s:=by
  show wpAny _ A.in1 (Builtin.Builtins.bindParams "max" ["key","default"] 0 ⟨[],[("default",.int d t0)]⟩ >>= _) _ _ s;refine wpAny_bind (wpAny_of_eq (show Builtin.Builtins.bindParams "max" ["key","default"] 0 ⟨[],[("default",.int d t0)]⟩=pure [none,some (.int d t0)] from rfl) ?_);refine wpAny_bind (wpAny_pure ?_);refine wpAny_bind (iter_intList hl λs2 e st hfp hlI=>?_);refine wpAny_bind (wpAny_newObj_type ?_);rw[nm];have hBf:s2.heap.objs.size∉[s.heap.objs.size,l]:=λx=>Jx _ (hfp _ x);have W:=Walks.list (prog:=prog) (w:=w) (A:=A.in1) hh s.heap.objs.size l hlI (intItems xs);have hBw:s2.heap.objs.size∉[s.heap.objs.size]:=λx=>hBf (W.sub _ x);refine wpAny_pure ⟨plainId_quiet F.plain_max_loop _,?_⟩;have st2:=W.frame 0 _ (s2.heap.push {cls:=.type "list",dict:=none,data:=.seq #[] 0}) st λb _ o e=>IS _ e;have keep0:∀b o,s.heap.get? b=some o->s2.heap.get? b=some o:=λb o eo=>by rw[e];exact IS _ eo
  have new0:∀b o,s.heap.get? b=some o->b∉[s.heap.objs.size]/\b≠s2.heap.objs.size:=λb o eo=>by
   have h1:=Jr eo;have h2:=Jr (keep0 b o eo);exact⟨λx=>Jx _ (IU.mp x▸h1),Jk h2⟩
  have eB:(s2.heap.push {cls:=.type "list",dict:=none,data:=.seq #[] 0}).get? s2.heap.objs.size=some {cls:=.type "list",dict:=none,data:=.seq #[] 0,slots:=#[]}:=IY _ rfl;have eS:∀(h':Heap) (tk:Nat),({s2 with heap:=h',toks:=tk}:Shared)={s with heap:=h',toks:=tk}:=λh' tk=>by rw[e]
  refine codeAny_builtin F.entry_max_loop ?_;rw[Around.under_plainId F.plain_max_loop _];show wpAny _ A.in1 (seqItems? (.ref s2.heap.objs.size) >>= _) _ _ _;refine wpAny_bind (wpAny_seqItems eB rfl ?_);show wpAny _ A.in1 (tryCatch (pyNext (.ref s.heap.objs.size)) _ >>= _) _ _ _
  by_cases hz:xs.size=0
  ·have hz2:(intItems xs).size=0:=by unfold intItems;rw[Array.size_map];exact hz
   refine wpAny_bind (wpAny_tryCatch (W.done _ _ _ (by rw[hz2];exact st2) λh' tk kp=>?_));show wpAny _ A.in1 (rule _ >>= _) _ _ _;refine wpAny_bind (wpAny_rule (wpAny_pure ?_));have:=ok d t0 h' tk (.inl ⟨hz,rfl⟩) λb o eo=>kp b o (new0 b o eo).1 (IS _ (keep0 b o eo));rw[<- eS]at this;exact this
  ·have hlt:0<(intItems xs).size:=by unfold intItems;rw[Array.size_map];omega
   refine wpAny_bind (wpAny_tryCatch (W.item 0 _ _ _ hlt st2 λv h' tk hP st' kp=>?_));have eB':=kp s2.heap.objs.size _ hBw eB;obtain⟨t2,rfl⟩:=intItems_at hP;show wpAny _ A.in1 (updateSeq s2.heap.objs.size (λ_=>#[.int (numAt xs 0) t2,.int (numAt xs 0) t2]) >>= _) _ _ _;refine wpAny_bind (wpAny_updateSeq eB' rfl ?_);rw[nm];refine wpAny_pure ⟨plainId_quiet F.plain_max_loop _,Av [("default",.int d t0)] W (numAt xs) (λ_ _=>intItems_at) s2.heap.objs.size hBf _ 1 _ (numAt xs 0) t2 _ rfl (Jo _) hlt (W.frame _ _ _ st' λb hb o eo=>?_) (Ci _) (Jb _ eB' rfl) λM' t' h2 tk2 tp kp2=>?_⟩
   ·exact(IX _ _ (λx:s2.heap.objs.size=b=>hBf (by rw[x];exact hb))).trans eo
   ·have sz:(intItems xs).size=xs.size:=by unfold intItems;rw[Array.size_map]
    rw[sz]at tp;have:=ok M' t' h2 tk2 (.inr ⟨⋯,tp⟩) λb o eo=>kp2 b o (new0 b o eo).1 (new0 b o eo).2 ((IX _ _ (Ne.symm (new0 b o eo).2)).trans (kp b o (new0 b o eo).1 (IS _ (keep0 b o eo))));rw[<- eS]at this;exact this
 simp only[checkBuiltinCall,F.kind_max];cases hs:Manifest.signature? "max" with
 |none=>exact wpAny_pure body
 |some sig=>
  simp only[sg sig hs];exact wpAny_pure body
end
noncomputable def Aj(K:JT)(t:TA)(tk:TA):TE:=λσ H Q=>t σ H λxs H1=>tk σ H1 λds H2=>∃(p:Addr) (ns:List Int) (d:Int),xs=[.ref p]/\ds=[.int d]/\aW K H2 p (ns.map V.int)/\∀M:Int,(ns=[]/\M=d)\/(M∈ns/\∀a∈ns,a<=M)->Q (.int M) H2
section
variable {X:Cx}{e:Expr}{t tk:TA}{p pos kpos:Pos}{de:Expr}
theorem Cw(hc:X.calm=true)(hg:Gl X "max")(hm:X.mg "max"=none)(ha:PA X [e] t)(hk:PK X [⟨some "default",de,kpos⟩] tk)
  (he:autoParam (backTo pos (starEach [e] X.env)=(false,eval e X.env)::backTo pos (starEach [] X.env)) zz0._auto_1) (hpl:autoParam ((backTo pos (starEach [e] X.env)).any (·.1)=false) zz0._auto_1)
  (hall:autoParam ((backToKw pos (keywordEach [⟨some "default",de,kpos⟩] X.env)).all (·.1.isSome)=true) zz0._auto_1) (hkw:autoParam ((backToKw pos (keywordEach [⟨some "default",de,kpos⟩] X.env)).any (·.1.isNone)=false) zz0._auto_1)
  (hks:autoParam ((backToKw pos (keywordEach [⟨some "default",de,kpos⟩] X.env)).filterMap (·.1)=[("default":Str)]) zz0._auto_1) :
  PE X (.Call (.Name "max" p) [e] [⟨some "default",de,kpos⟩] pos) (Aj X.K t tk):=by
 intro pins s σ H Q I h;have hb:bootBuiltins "max"=some (.builtin "max"):=by decide +kernel
 refine wpAny_Call_Name_kw (b5 I hg hm hb ?_);refine callWith_kw (bM (ha pos pins s σ H _ I h) λus s1 ⟨vs,H1,I1,r,q⟩=>?_) he hpl hall hkw;refine bM (hk pos pins s1 σ H1 _ I1 q) λws s2 ⟨zs,H2,I2,rz,q2⟩=>?_;rw[hks];obtain⟨l,ns,d,rfl,rfl,hs,q3⟩:=q2;obtain⟨u,rfl,ru⟩:=r.one;cases ru;obtain⟨u2,rfl,ru2⟩:=rz.one;obtain⟨t0,rfl⟩:=ru2;obtain⟨its,rv,pl,_⟩:=I2.list hs;obtain⟨ps,e1,e2⟩:=oy rv;refine kX (xs:=ps.toArray) (I2.ok.hd hc) (by rw[<- e1];exact pl.isList) λM t' h' tk' hM kp=>?_;refine⟨.int M,H2,I2.kept (t':=tk') kp,⟨_,rfl⟩,q3 M ?_⟩;have hl:ps.length=ns.length:=by rw[<- e2,IT]
 have at_:∀i (h:i<ns.length),numAt ps.toArray i=ns[i]:=λi h=>by
  unfold numAt;subst e2;simp at h;simp[h]
 rcases hM with⟨hz,hM⟩ | ⟨hz,⟨i,hi,ei⟩,eJ⟩
 ·refine .inl ⟨JF.mp ?_,hM⟩
  simp at hz;rw[<- hl,hz];rfl
 ·have hi':i<ns.length:=by simpa[hl]using hi
  refine .inr ⟨by rw[<- ei,at_ i hi'];exact I_ _,λa ha'=>?_⟩;obtain⟨j,hj⟩:=List.mem_iff_getElem?.mp ha';obtain⟨hj1,hj2⟩:=IR.mp hj;have:=eJ j (by simpa[hl]using hj1);rw[at_ j hj1,hj2]at this;exact this
end
end L2
namespace L2
open PySem PySem.Spec PyProof.Rows QL bC
theorem rf{α β:Type}{g:α->β}:∀(l:List α) (f':α->Option β),(∀k∈l,f' k=some (g k))->l.filterMap f'=l.map g
 | [],_,_=>rfl
 |a::l,f',h=>by
  rw[List.filterMap_cons,h a List.mem_cons_self,Ju,rf l f' λk hk=>h k (Jh _ hk)]
section
variable {X:Cx}
noncomputable def BD(K:JT):R2:=λx y H Q=>∃a b xs ys,x=.ref a/\y=.ref b/\bc K H a xs/\bc K H b ys/\xs.length+ys.length<=sizeLine/\∀p H',bc K H' p (xs++ys)->az H H'->Q (.ref p) H'
theorem jQ:aZ X (binaryOp .Add) (BD X.K):=by
 intro pins s σ H x y v u Q I rx ry h;obtain⟨a,b,xs,ys,rfl,rfl,ha,hb,hz,q⟩:=h
 by_cases hx:xs=[]
 ·subst hx
  cases rx;cases ry;obtain⟨its,r1,p1,_⟩:=I.tuple ha;obtain⟨its2,r2,p2,_⟩:=I.tuple hb;have e1:its=[]:=r1.zero;subst e1;obtain⟨⟨cls,dd,data,sl⟩,ho,hc,n,hd⟩:=id p1;obtain⟨⟨cls2,dd2,data2,sl2⟩,ho2,hc2,n2,hd2⟩:=id p2;simp only at hc hd hc2 hd2;subst hc hd hc2 hd2;exact concat_meets ⟨_,ho,rfl⟩ ⟨_,ho2,rfl⟩ noFill_tuple_add seq_tuple_add PySem.F.slot_tuple_add PySem.F.entry_tuple_add (PySem.F.args_tuple_add_2 _ _)
   (tuple_addW0 a b _ _ n n2 dd dd2 sl sl2 (by rfl)) ⟨ho,ho2,⟨.ref b,H,I,rfl,q b H (by rw[JJ];exact hb) (az.refl _)⟩⟩
 ·refine b8 pins s σ H _ _ v u Q I rx ry ⟨a,b,xs,ys,rfl,rfl,ha,hb,hx,hz,λe=>?_,λ_ p hp=>q p _ (bc.of ac) (ae hp)⟩
  refine q a H ?_ (az.refl _);rw[e,Jz];exact ha
noncomputable def A3(te ts:TE):TE:=λσ H Q=>te σ H λx H1=>ts σ H1 λy H2=>∃r:List Nat,x=.str (tx r)/\y=.int (-1)/\r.length<=1000/\Q (.str (tx r.reverse)) H2
theorem DH(n:Nat):Builtin.Str.strSliceIndices none none (-1) n=(List.range n).map λk=>n-1-k:=by
 unfold Builtin.Str.strSliceIndices sliceRange
 by_cases hn:n=0
 ·subst hn;decide
 ·simp only[show ¬ ((-1:Int)>0) by decide,if_false]
  rw[if_pos ⋯];have e:(((n:Int)-1 - -1 - -1-1)/(- -1)).toNat=n:=by
   have:(- -1:Int)=1:=by decide
   rw[this,Int.ediv_one];omega
  rw[e];refine List.map_congr_left λk hk=>?_;omega
variable {e st:Expr}{te ts:TE}{p2 pos:Pos}
theorem CK(he:PE X e te)(hs:PE X st ts):PE X (.Subscript e (.Slice none none (some st) p2) pos) (A3 te ts):=by
 intro pins s σ H Q I h;refine Subscript_ (bM (he pins s σ H _ I h) λv s1 ⟨x,H1,I1,r1,q1⟩=>?_);refine wpAny_Slice ?_;rw[evalPart_none];refine wpAny_pure (wpAny_pure ?_);show wpAny _ _ (eval st X.env) _ _ _;refine bM (hs pins s1 σ H1 _ I1 q1) λvs s2 ⟨y,H2,I2,r2,r,ex,ey,hl,q⟩=>?_;subst ex;subst ey;obtain⟨t1,rfl⟩:=r1;obtain⟨t2,rfl⟩:=r2;have I3:Inv X pins σ H2 {s2 with heap:=s2.heap.push {cls:=.type "slice",data:=.fields #[.none,.none,.int (-1) t2]} }:=I2.kept (t':=s2.toks) λb ob q=>IS _ q;have hsl:Heap.IsSlice (s2.heap.push {cls:=.type "slice",data:=.fields #[.none,.none,.int (-1) t2]}) s2.heap.objs.size none none (some (-1,t2)):=⟨_,IY _ rfl,rfl,rfl⟩;have lS:(if((Option.map (λx:Int×Tok=>x.1) (some (-1,t2))).getD 1==1&&(slicePicked (tx r) none none (some (-1,t2))).length==(tx r).length)=true then tx r else⟨((slicePicked (tx r) none none (some (-1,t2))).filterMap ((tx r).cps[·]?)).toArray⟩)=tx r.reverse:=by
  have e1:slicePicked (tx r) none none (some (-1,t2))=(List.range r.length).map λk=>r.length-1-k:=by
   unfold slicePicked;rw[<- DH,<- aH r]
   rfl
  rw[if_neg (by simp),e1];have e2:((List.range r.length).map λk=>r.length-1-k).filterMap ((tx r).cps[·]?)=r.reverse:=by
   have:∀k∈List.range r.length,(tx r).cps[r.length-1-k]?=some (r.reverse.getD k 0):=λk hk=>by
    have hk':=List.mem_range.mp hk;rw[<- Array.getElem?_toList,iI,List.getD_eq_getElem?_getD,List.getElem?_reverse hk',IQ ⋯,Option.getD_some]
   rw[List.filterMap_map];refine(rf (g:=λk=>r.reverse.getD k 0) _ _ (λk hk=>this k hk)).trans ?_;apply List.ext_getElem?;intro i;rw[IV]
   by_cases hi:i<r.length
   ·rw[List.getElem?_range hi,Option.map_some,List.getD_eq_getElem?_getD,IQ (by rw[Ji];exact hi),Option.getD_some]
   ·rw[List.getElem?_eq_none (by rw[List.length_range];omega),List.getElem?_eq_none (by rw[Ji];omega)];rfl
  rw[e2]
  rfl
 have hg:wpAny (model X.prog X.w) X.A (getItem (.str (tx r) t1) (.ref s2.heap.objs.size)) (EP X pins σ Q) X.xe {s2 with heap:=s2.heap.push {cls:=.type "slice",data:=.fields #[.none,.none,.int (-1) t2]} }:=by
  refine wpAny_getItem_str_slice hsl (by rfl) ?_;unfold sliceMade;refine post_val_or_str ⟨?_,λt' k=>?_⟩
  ·rw[lS];rw[aH];exact ai (by rw[Ji];omega)
  ·rw[lS];exact⟨.str _,H2,I3.tok _,⟨_,rfl⟩,q⟩
 show wpAny (model X.prog X.w) X.A (subscriptTail e (.Slice none none (some st) p2) (.str (tx r) t1) (.ref s2.heap.objs.size)) (EP X pins σ Q) X.xe _;exact tail_any (ops:=[.ref s2.heap.objs.size,.str (tx r) t1]) (typeIs_str _ _ _) F.slot_str_getitem.lookup hg (by with_unfolding_all rfl)
end
noncomputable abbrev km(a:Addr):Obj:={cls:=.type "tuple_iterator",data:=.fields #[.ref a,.int 0 0]}
noncomputable abbrev sI(a:Addr):Obj:={cls:=.type "enumerate",data:=.fields #[.none,.bool false,.ref a,rawInt 0,.none,.none]}
theorem xO(a:Addr)(us:Array Value)(n:Nat)(dd:Ka)(ss:Array (Option Value)) :
  Meets (Builtin.«enumerate.__new__» ⟨[.type "enumerate",.ref a],[]⟩) (λ_ R s=>s.heap.get? a=some {cls:=.type "tuple",dict:=dd,data:=.seq us n,slots:=ss} /\
   R (.ok (.ret (.ref (s.heap.push (km a)).objs.size))) {s with heap:=(s.heap.push (km a)).push (sI s.heap.objs.size)}):=
 .of_wp λprog w A R s h=>by
  obtain⟨h0,g0,d0,t0,o0⟩:=s;obtain⟨ea,h⟩:=h;have sb:=sub_enumerate;have isT:Heap.IsTuple (Shared.heap ⟨h0,g0,d0,t0,o0⟩) a us:=⟨_,ea,rfl,n,rfl⟩
  wp_walk using AutoSeq1.wpAny_loadPart' ea
  refine wpAny_stack_any λ_=>wpAny_pure ?_
  split
  ·rename_i cc _ _ _ _ _
   cases(cc==Value.type "enumerate")
   ·wp_walk using AutoSeq1.wpAny_loadPart' ea,wpAny_pyIter_tuple isT
    exact⟨_,rfl,h⟩
   ·wp_walk using AutoSeq1.wpAny_loadPart' ea,wpAny_pyIter_tuple isT
    exact⟨_,rfl,h⟩
  ·wp_walk using AutoSeq1.wpAny_loadPart' ea,wpAny_pyIter_tuple isT
   exact⟨_,rfl,h⟩
section
variable {prog:J3}{w:J9}{A:J8}{E:JS}{s:JW}
theorem vd{a:Addr}{us:Array Value}{Q:JS}(ha:s.heap.IsTuple a us)
  (h:∀h',IsEnum h' (s.heap.objs.size+1) s.heap.objs.size 0 .none->h'.IsTupleIter s.heap.objs.size a 0->(∀b o,s.heap.get? b=some o->h'.get? b=some o)->Q (.ref (s.heap.objs.size+1)) {s with heap:=h' }) :
  wpAny (model prog w) A (call (.type "enumerate") [.ref a]) Q E s:=by
 obtain⟨⟨c,dd,dt,ss⟩,ea,ec,n,ed⟩:=ha;simp only at ec ed;subst ec ed;refine callType_new F.called_enumerate nofun (F.typeCall_enumerate_1 _) (F.newCall_enumerate_1 _) (λob=>F.args_object_init_2 ob _) F.entry_enumerate_new (xO a us n dd ss) ⟨ea,?_⟩;have sz:(s.heap.push (km a)).objs.size=s.heap.objs.size+1:=Heap.size_push ..;show _/\_;rw[sz];have ie:IsEnum ((s.heap.push (km a)).push (sI s.heap.objs.size)) (s.heap.objs.size+1) s.heap.objs.size 0 .none:=by
  have q:=IY (s.heap.push (km a)) (o:=sI s.heap.objs.size) rfl;rw[sz]at q;exact q
 exact⟨⟨_,ie,rfl⟩,h _ ie ⟨_,IS _ (IY _ rfl),rfl,rfl⟩ λb o q=>IS _ (IS _ q)⟩
theorem wD{i0 a:Addr}{i:Nat}{us:Array Value}{x:Value}{Q:JS}(ii:s.heap.IsTupleIter i0 a i)(ha:s.heap.IsTuple a us)(hx:us[i]?=some x)
  (q:∀h',h'.IsTupleIter i0 a (i+1)->Heap.SameBut i0 s.heap h'->Q x {s with heap:=h' }):wpAny (model prog w) A (Builtin.SmallTypes.nextOf (.ref i0)) Q E s:=by
 obtain⟨oi,ei,ci,di⟩:=id ii;obtain⟨oa,ea,_,na,da⟩:=ha;unfold Builtin.SmallTypes.nextOf;refine wpAny_bind (wpAny_callSpecial?_slot (name:=Str.ofString "__next__") ii.typeIs F.slot_tuple_iterator_next (wpAny_call_entry F.slot_tuple_iterator_next ii.typeIs F.entry_tuple_iterator_next ?_ (F.args_tuple_iterator_next_1 _)));show wpAny _ _ (field (.ref i0) 0 >>= _) _ _ s;refine wpAny_bind (wpAny_field ei di (x:=.ref a) rfl ?_);show wpAny _ _ (if(Value.ref a==Value.none)=true then _ else _) _ _ s;rw[if_neg (show ¬ ((Value.ref a==Value.none)=true) from Jq)];show wpAny _ _ (field (.ref i0) 1 >>= _) _ _ s;refine wpAny_bind (wpAny_field ei di (x:=.int i 0) rfl ?_);show wpAny _ _ (seqItems? (.ref a) >>= _) _ _ s;refine wpAny_bind (wpAny_seqItems ea da ?_);simp only[Ja,hx];refine wpAny_bind (wpAny_setField ei di (by simp) (wpAny_pure ⟨x,rfl,wpAny_pure (q _ ?_ (Heap.SameBut.update ..))⟩));exact⟨_,Jb _ ei (Obj.isFreed_of_fields (Obj.data_mapFields di _)),(Obj.cls_mapFields ..).trans ci,by rw[Obj.data_mapFields di];simp[rawInt]⟩
theorem yq{i0 a:Addr}{i:Nat}{us:Array Value}{Q:JS}(hh:A.handled=none)(ii:s.heap.IsTupleIter i0 a i)(ha:s.heap.IsTuple a us)(hx:us[i]?=none)
  (q:∀h' e,Heap.ExtBut i0 s.heap h'->(∃o,h'.get? e=some o/\o.cls=.type "StopIteration")->E (.ref e) {s with heap:=h' }):wpAny (model prog w) A (Builtin.SmallTypes.nextOf (.ref i0)) Q E s:=by
 obtain⟨oi,ei,ci,di⟩:=id ii;obtain⟨oa,ea,_,na,da⟩:=ha;unfold Builtin.SmallTypes.nextOf;refine wpAny_bind (wpAny_callSpecial?_slot (name:=Str.ofString "__next__") ii.typeIs F.slot_tuple_iterator_next (wpAny_call_entry F.slot_tuple_iterator_next ii.typeIs F.entry_tuple_iterator_next ?_ (F.args_tuple_iterator_next_1 _)));show wpAny _ _ (field (.ref i0) 0 >>= _) _ _ s;refine wpAny_bind (wpAny_field ei di (x:=.ref a) rfl ?_);show wpAny _ _ (if(Value.ref a==Value.none)=true then _ else _) _ _ s;rw[if_neg (show ¬ ((Value.ref a==Value.none)=true) from Jq)];show wpAny _ _ (field (.ref i0) 1 >>= _) _ _ s;refine wpAny_bind (wpAny_field ei di (x:=.int i 0) rfl ?_);show wpAny _ _ (seqItems? (.ref a) >>= _) _ _ s;refine wpAny_bind (wpAny_seqItems ea da ?_);simp only[Ja,hx];refine wpAny_bind (wpAny_rule (wpAny_bind (wpAny_setField ei di (by simp) ?_)));show wpAny _ _ (newExc (.type "StopIteration") [] >>= _) _ _ _;refine wpAny_bind ?_;simp only[newExc,newTuple];refine wpAny_bind (wpAny_newObj_type ?_ (by size_fits));refine wpAny_bind (m:=firstArgMember _ _) (wpAny_of_eq (a:=Value.none) (by first | rfl | (simp only[firstArgMember];rfl)) ?_);refine wpAny_newObj_type ?_ (by size_fits);simp only[raiseNew];refine wpAny_bind (wpAny_handled ?_)
 first | rw[show A.in1.handled=none from hh] | rw[hh]
 refine wpAny_bind (wpAny_pure (wpAny_throw ?_));exact q _ _ (((Heap.SameBut.update ..).extBut.push _).push _) ⟨_,IY _ rfl,rfl⟩
end
theorem Bk{prog:J3}{w:J9}{A:J8}(hh:A.handled=none)(i0 a:Addr)(hne:a≠i0)(us:Array Value) :
  Draws prog w A i0 [i0,a] us.size (λi v=>us[i]?=some v) (λi h=>h.IsTupleIter i0 a i/\h.IsTuple a us) where
 live:=λ_ _ st=>let ⟨o,ho,_⟩:=st.1;⟨o,ho⟩
 frame:=λ_ _ _ st kp=>⟨by obtain⟨o,ho,r⟩:=st.1;exact⟨o,kp i0 (by simp) o ho,r⟩,by obtain⟨o,ho,r⟩:=st.2;exact⟨o,kp a (by simp) o ho,r⟩⟩
 item:=λi s Q E hi st q=>by
  refine wD st.1 st.2 (x:=us[i]) (by simp[hi]) λh' i1 sb=>?_;refine q _ h' s.toks (by simp[hi]) ⟨i1,?_⟩ sb;obtain⟨o,ho,r⟩:=st.2;exact⟨o,(sb.2 a hne).trans ho,r⟩
 done:=λs Q E st q=>yq hh st.1 st.2 (by simp) q
noncomputable def D8(K:JT)(a:Addr):It:=
 ⟨λi H=>∃xs x,bc K H a xs/\xs[i]?=some x,λi H v H'=>∃T x,v=.ref T/\H T=none/\H'=aC H T (.tup [.int (i:Int),x])/\∀xs,bc K H a xs->xs[i]?=some x,λi H=>∃xs,bc K H a xs/\xs.length=i⟩
theorem vq{P:J3}{w:J9}{K:JT}{elts:Kb}{x1:Nat}{tp:Pos}{e it l:Addr}(hei:e≠it)(hel:l≠e)(hil:l≠it) :
  nI P w K (.Tuple elts x1 tp) (D8 K l) [e,it] e (λi h=>(∃old,IsEnum h e it i old)/\h.IsTupleIter it l i) where
 mem:=by simp
 obj:=λi h st b hb=>by
  obtain⟨⟨old,he⟩,⟨o1,e1,c1,d1⟩⟩:=st;simp only[Jg,List.not_mem_nil,or_false]at hb;rcases hb with rfl | rfl
  ·exact⟨_,he,λv q=>by cases q⟩
  ·exact⟨_,e1,λv q=>by rw[d1]at q;cases q⟩
 keep:=λi h h' st hk=>by
  obtain⟨⟨old,he⟩,⟨o1,e1,r⟩⟩:=st;exact⟨⟨old,hk e (by simp) _ he⟩,⟨o1,hk it (by simp) _ e1,r⟩⟩
 item:=by
  intro X hP hw hK hc i pins s σ H E I hf st hg;subst hP hw hK;obtain⟨xs,x,hq,hx⟩:=hg;obtain⟨its,rv,p,hz⟩:=I.tuple hq;obtain⟨u,hu,ru⟩:=rv.get hx;obtain⟨⟨old,he⟩,h1⟩:=st;obtain⟨o1,e1,_⟩:=id h1;have D:=Bk (prog:=X.prog) (w:=X.w) (A:=X.A.in1) (I.ok.hd hc) it l hil its.toArray;have hlt:i<its.toArray.size:=by rw[IZ];exact(IR.mp hu).1
  refine wpAny_pyNext_enum_itemD D he ⟨h1,p⟩ hlt hei (by simp[hei,Ne.symm hel]) λv h' tk hv a1 a2 a3 a4 hk=>?_;have ev:v=u:=by
   have:its[i]?=some v:=by simpa using hv
   rw[hu]at this;exact(Option.some.inj this).symm
  subst ev;refine⟨_,rfl,wpAny_letOwnedTupleGo_enum a1 λh2 he2 hs2=>?_⟩;have hfree:H s.heap.objs.size=none:=I.hok.fresh (Jo _);have lt:∀{c o},s.heap.get? c=some o->s.heap.objs.size≠c:=λe=>Nat.ne_of_gt (Jr e);have kk:∀c o,c∉[e,it]->s.heap.get? c=some o->h2.get? c=some o:=λc o hc q=>
   hs2.extBut _ _ (λz=>hc (by simp[z])) (hk c o (λz=>hc (by simp[z])) (λz=>hc (by simp[z])) q)
  have hT:h2.get? s.heap.objs.size=some {cls:=.type "tuple",data:=.seq #[.int i tk,v]}:=hs2.extBut _ _ (lt he) a3;refine⟨.ref s.heap.objs.size,aC H s.heap.objs.size (.tup [.int i,x]),I.movedT (tk:=tk+1) hf kk (Jo _) ⟨show 2<=sizeLine from by decide +kernel,[.int i tk,v],.cons ⟨_,rfl⟩ (.cons ru .nil),_,hT,rfl,_,rfl⟩,rfl,
   ⟨_,x,rfl,hfree,rfl,λzs hzs=>by rw[I.tuple_inj hzs hq];exact hx⟩,⟨⟨v,by simpa using he2⟩,?_⟩,λb hb=>?_⟩
  ·obtain⟨o2,e2,r⟩:=a2.1
   exact⟨o2,hs2.extBut _ _ (Ne.symm hei) e2,r⟩
  have hlt:b≠s.heap.objs.size:=by
   simp only[Jg,List.not_mem_nil,or_false]at hb;rcases hb with rfl | rfl
   ·exact(lt he).symm
   ·exact(lt e1).symm
  rw[aj hlt];exact(hf b hb).1
 done:=by
  intro X hP hw hK hc i pins s σ H E I hf st hg;subst hP hw hK;obtain⟨xs,hq,hx⟩:=hg;obtain⟨its,rv,p,hz⟩:=I.tuple hq;obtain⟨⟨old,he⟩,h1⟩:=st;have l1:=rv.length;have D:=Bk (prog:=X.prog) (w:=X.w) (A:=X.A.in1) (I.ok.hd hc) it l hil its.toArray;have ei:i=its.toArray.size:=by rw[IZ];omega
  subst ei;exact wpAny_pyNext_enum_endD D he ⟨h1,p⟩ λh' hk=>⟨rfl,I.moved (tk:=s.toks) hf λc o hc e=>hk c o (λq=>hc (by simp[q])) e⟩
 self:=λ_ _ _ _ _ st h=>let ⟨⟨_,he⟩,_⟩:=st;wpAny_pyIter_enum he h
noncomputable def wj(K:JT)(ta:TA):TI:=λσ H R=>ta σ H λvs H1=>∃a xs,vs=[.ref a]/\bc K H1 a xs/\R (D8 K a) H1
section
variable {X:Cx}{elts:Kb}{x1:Nat}{tp:Pos}
theorem zM{a:Expr}{ta:TA}{p pos:Pos}(hg:Gl X "enumerate")(hm:X.mg "enumerate"=none)(ha:PA X [a] ta)(hs:autoParam (starEach [a] X.env=[(false,eval a X.env)]) zz0._auto_1):PI X (.Tuple elts x1 tp) (.Call (.Name "enumerate" p) [a] [] pos) (wj X.K ta):=by
 intro pins s σ H R I h;refine Call_ (b5 I hg hm boot_enumerate (PyProof.Rows.callWith_type1 (bM (ha pos pins s σ H _ I h) λus s1 ⟨vs,H1,I1,r1,q1⟩=>?_) (by rw[hs];rfl) (by rfl)));obtain⟨l,xs,rfl,hq,q⟩:=q1;obtain⟨u,rfl,ru⟩:=r1.one;cases ru;obtain⟨its,rv,p1,_⟩:=I1.tuple hq;have hll:l<s1.heap.objs.size:=by obtain⟨o,e,_⟩:=p1;exact Jr e
 refine vd p1 λh' z1 z2 hk=>?_;have I2:Inv X pins σ H1 {s1 with heap:=h' }:=I1.kept (t':=s1.toks) hk;refine wpAny_pyIter_enum z1 ?_;refine⟨s1.heap.objs.size+1,[s1.heap.objs.size+1,s1.heap.objs.size],_,_,H1,rfl,I2,vq (l:=l) (Nat.ne_of_gt (Jy _)) (Jk (Nat.lt_succ_of_lt hll)) (Jk hll),⟨⟨_,z1⟩,z2⟩,λb hb=>?_,q⟩;have hb':s1.heap.objs.size<=b:=by
  simp only[Jg,List.not_mem_nil,or_false]at hb;rcases hb with e | e<;>(rw[e];first | exact Jo _ | exact Nat.le_add_right _ _)
 exact I1.fpOk hb' (I1.hok.fresh hb')
end
section
variable {K:JT}{g:TG}{tb:TS}{D:gY}{σ:St}{H:Hp}
theorem vL{a:Addr}{xs:List V}(Pv:Nat->St->Hp->Prop)(h0:Pv 0 σ H)(hl:∀i σ H,i<=xs.length->Pv i σ H->bc K H a xs)
  (hs:∀(i:Nat) x σ H T,xs[i]?=some x->Pv i σ H->H T=none->g (.ref T) σ (aC H T (.tup [.int (i:Int),x])) λσ2 H2=>tb {D with nx:=Pv (i+1),ct:=Pv (i+1),bk:=D.nx} σ2 H2) (hd:∀σ H,Pv xs.length σ H->D.nx σ H):t5 (D8 K a) g tb D σ H:=by
 refine⟨λi m σ H=>m=xs.length-i/\i<=xs.length/\Pv i σ H,⟨xs.length,by simp,Jp _,h0⟩,?_⟩;rintro i m σ H ⟨rfl,hi,p⟩;have q:=hl i σ H hi p
 by_cases hlt:i<xs.length
 ·refine .inr ⟨⟨xs,xs[i],q,by simp[hlt]⟩,Pv (i+1),λσ' H' p'=>⟨xs.length-(i+1),⋯,rfl,hlt,p'⟩,λx H' y=>?_⟩
  obtain⟨T,x,rfl,hT,rfl,y⟩:=y;exact hs i x σ _ T (y xs q) p hT
 ·have e:i=xs.length:=by omega
  subst e;exact .inl ⟨⟨xs,q,rfl⟩,hd σ H p⟩
end
theorem kc:Slot "reversed" "__next__" "reversed.__next__":=
 .of (owner:="reversed") (n:="__next__") (by rw[typeLookup_type,builtinLookup_eq_fast];kernel_rfl) (by decide +kernel) (by decide +kernel) (by decide +kernel) (by first | exact .inl (by decide +kernel) | exact .inr (by decide +kernel)) (by rw[isSubtype_type];kernel_rfl)
theorem xb:Slot "reversed" "__iter__" "reversed.__iter__":=
 .of (owner:="reversed") (n:="__iter__") (by rw[typeLookup_type,builtinLookup_eq_fast];kernel_rfl) (by decide +kernel) (by decide +kernel) (by decide +kernel) (by first | exact .inl (by decide +kernel) | exact .inr (by decide +kernel)) (by rw[isSubtype_type];kernel_rfl)
theorem Cg:Slot "reversed" "__init__" "object.__init__":=
 .of (owner:="object") (n:="__init__") (by rw[typeLookup_type,builtinLookup_eq_fast];kernel_rfl) (by decide +kernel) (by decide +kernel) (by decide +kernel) (by first | exact .inl (by decide +kernel) | exact .inr (by decide +kernel)) (by rw[isSubtype_type];kernel_rfl)
theorem qN:Slot "reversed" "__length_hint__" "reversed.__length_hint__":=
 .of (owner:="reversed") (n:="__length_hint__") (by rw[typeLookup_type,builtinLookup_eq_fast];kernel_rfl) (by decide +kernel) (by decide +kernel) (by decide +kernel) (by first | exact .inl (by decide +kernel) | exact .inr (by decide +kernel)) (by rw[isSubtype_type];kernel_rfl)
theorem qx:entryFor table "reversed.__next__"=some Builtin.«reversed.__next__»:=entryFor_of_tree (by kernel_rfl)
theorem yO:entryFor table "reversed.__length_hint__"=some Builtin.«reversed.__length_hint__»:=entryFor_of_tree (by kernel_rfl)
theorem qg(a:Value):argsOk "reversed.__next__" ⟨[a],[]⟩:=by unfold argsOk;kernel_rfl
theorem x4(a:Value):argsOk "reversed.__iter__" ⟨[a],[]⟩:=by unfold argsOk;kernel_rfl
theorem y4(a:Value):argsOk "reversed.__length_hint__" ⟨[a],[]⟩:=by unfold argsOk;kernel_rfl
theorem yG:entryFor table "reversed.__iter__"=some Builtin.«dict_keyiterator.__iter__»:=
 entryFor_alias (id':="dict_keyiterator.__iter__") (by kernel_rfl) (by first | rfl | decide +kernel | (unfold String.splitOn;simp +decide [String.splitOnAux])) (by decide +kernel) (by kernel_rfl)
theorem xG:TypeCalled "reversed" "reversed.__new__" "object.__init__":=
 ⟨by decide +kernel,by decide +kernel,⟨_,_,F.mro_reversed⟩,F.made_reversed,by decide +kernel,by rw[isSubtype_type];kernel_rfl,Cg⟩
theorem yL:typeLookup (.type "tuple") "__reversed__"=pure none:=by rw[typeLookup_type,builtinLookup_eq_fast];kernel_rfl
theorem vG:isSubtype (.type "tuple") (.type "dict")=pure false:=by rw[isSubtype_type];kernel_rfl
noncomputable abbrev Cl(a:Addr)(i:Int):Obj:={cls:=.type "reversed",data:=.fields #[.ref a,rawInt i]}
section
variable {prog:J3}{w:J9}{A:J8}{E:JS}{s:JW}
set_option maxHeartbeats 1000000 in
theorem Bi(a:Addr)(us:Array Value)(n:Nat)(dd:Ka)(ss:Array (Option Value)) :
  Meets (Builtin.«reversed.__new__» ⟨[.type "reversed",.ref a],[]⟩) (λ_ R s=>s.heap.get? a=some {cls:=.type "tuple",dict:=dd,data:=.seq us n,slots:=ss}/\(us.size:Int)<2 ^ 63/\∀tk,R (.ok (.ret (.ref s.heap.objs.size))) {s with heap:=s.heap.push (Cl a ((us.size:Int)-1)),toks:=tk}):=
 .of_wp λprog w A R s h=>by
  obtain⟨h0,g0,d0,t0,o0⟩:=s;obtain⟨ea,hz,h⟩:=h;have isT:IsTup (Shared.heap ⟨h0,g0,d0,t0,o0⟩) a us:=⟨_,ea,rfl,n,rfl⟩;have ty:Shared.TypeIs ⟨h0,g0,d0,t0,o0⟩ (.ref a) "tuple":=⟨_,ea,rfl⟩;unfold Builtin.«reversed.__new__»;refine wpAny_bind (wpAny_of_eq (newClass_reversed _) ?_)
  try dsimp only
  refine wpAny_bind (wpAny_of_eq (a:=()) (by first | rfl | kernel_rfl) ?_);refine wpAny_bind (wpAny_of_eq (a:=()) (by first | rfl | kernel_rfl) ?_)
  try dsimp only
  refine wpAny_bind (wpAny_specialOf ty yL ?_)
  try dsimp only
  refine wpAny_bind ?_
  wp_delta
  refine wpAny_bind (wpAny_isInstance (b:=false) ty vG ?_);rw[if_neg nofun];refine wpAny_bind (wpAny_specialOf ty F.slot_tuple_getitem.lookup ?_)
  try dsimp only
  rw[if_pos nofun];refine wpAny_pure ?_;rw[if_neg nofun];refine wpAny_bind (len_tuple isT hz ?_);refine wpAny_bind (wpAny_of_eq (a:=some (us.size:Int)) rfl ?_)
  try dsimp only
  unfold Builtin.SmallTypes.newRecord;refine wpAny_bind (wpAny_newObj_type (wpAny_pure ⟨_,rfl,h _⟩))
theorem yd{a:Addr}{us:Array Value}{Q:JS}(ha:s.heap.IsTuple a us)(hz:(us.size:Int)<2 ^ 63)
  (q:∀tk,Q (.ref s.heap.objs.size) {s with heap:=s.heap.push (Cl a ((us.size:Int)-1)),toks:=tk}):wpAny (model prog w) A (call (.type "reversed") [.ref a]) Q E s:=by
 obtain⟨⟨c,dd,dt,ss⟩,ea,ec,n,ed⟩:=ha;simp only at ec ed;subst ec ed;refine callType_new xG nofun (F.typeCall_reversed_1 _) (F.newCall_reversed_1 _) (λob=>F.args_object_init_2 ob _) F.entry_reversed_new (Bi a us n dd ss) ⟨ea,hz,λtk=>?_⟩;exact⟨⟨_,IY _ rfl,rfl⟩,q tk⟩
def dN(h:Heap)(r a:Addr)(i:Int):Prop:=∃o,h.get? r=some o/\o.cls=.type "reversed"/\o.data=.fields #[.ref a,rawInt i]
theorem dN.ty{r a:Addr}{i:Int}(x:dN s.heap r a i):s.TypeIs (.ref r) "reversed":=let ⟨o,e,c,_⟩:=x;⟨o,e,c⟩
theorem yu{r a:Addr}{i:Nat}{us:Array Value}{x:Value}{Q:Option Value->Shared->Prop}(ir:dN s.heap r a (i:Int))(ha:s.heap.IsTuple a us)(hx:us[i]?=some x)(hz:us.size<2 ^ 62)
  (q:∀h' tk,dN h' r a ((i:Int)-1)->Heap.SameBut r s.heap h'->Q (some x) {s with heap:=h',toks:=tk}):wpAny (model prog w) A (pyNext (.ref r)) Q E s:=by
 obtain⟨orr,er,cr,dr⟩:=id ir;unfold pyNext;refine wpAny_bind (wpAny_attempt (wpAny_callSpecial?_slot (name:=Str.ofString "__next__") ir.ty kc (wpAny_call_entry kc ir.ty qx ?_ (qg _))));unfold Builtin.«reversed.__next__»;refine wpAny_bind (wpAny_of_eq (a:=(Value.ref r,[])) rfl ?_)
 try dsimp only
 refine wpAny_bind (wpAny_field er dr (x:=.ref a) rfl ?_);refine wpAny_bind (wpAny_field er dr (x:=rawInt (i:Int)) rfl ?_);show wpAny _ _ (if(i:Int)<0 then _ else _) _ _ s;rw[if_neg ⋯];have ty:s.TypeIs (.ref a) "tuple":=by obtain⟨o,e,c,_⟩:=ha;exact⟨o,e,c⟩
 refine wpAny_bind (wpAny_specialOf ty F.slot_tuple_getitem.lookup ?_);rw[if_neg nofun];refine wpAny_bind (wpAny_mkInt ?_);have hi:i<us.size:=(Array.getElem?_eq_some_iff.mp hx).1;have e62:(2:Nat) ^ 62=4611686018427387904:=by decide
 have e63:(2:Int) ^ 63=9223372036854775808:=by decide
 rw[e62]at hz;refine wpAny_bind (wpAny_attempt (getItem_tuple (k:=(i:Int)) (j:=i) (x:=x) (show IsTup s.heap a us from ha) ?_ ?_ ?_ ?_ ?_))
 ·rw[e63];omega
 ·rw[e63];omega
 ·unfold seqIndex?
  simp;omega
 ·exact hx
 ·dsimp only
  refine wpAny_bind (wpAny_field er dr (x:=rawInt (i:Int)) rfl ?_);show wpAny _ _ (setField (Value.ref r) 1 (rawInt ((i:Int)-1)) >>= _) _ _ _;refine wpAny_bind (wpAny_setField er dr (by simp) (wpAny_pure ⟨x,rfl,wpAny_pure (q _ _ ?_ (Heap.SameBut.update ..))⟩));exact⟨_,Jb _ er (Obj.isFreed_of_fields (Obj.data_mapFields dr _)),(Obj.cls_mapFields ..).trans cr,by rw[Obj.data_mapFields dr];simp[rawInt]⟩
theorem Bb{r a:Addr}{Q:Option Value->Shared->Prop}(hh:A.handled=none)(ir:dN s.heap r a (-1))(q:∀h',Heap.ExtBut r s.heap h'->Q none {s with heap:=h' }):wpAny (model prog w) A (pyNext (.ref r)) Q E s:=by
 obtain⟨orr,er,cr,dr⟩:=id ir;unfold pyNext;refine wpAny_bind (wpAny_attempt (wpAny_callSpecial?_slot (name:=Str.ofString "__next__") ir.ty kc (wpAny_call_entry kc ir.ty qx ?_ (qg _))));unfold Builtin.«reversed.__next__»;refine wpAny_bind (wpAny_of_eq (a:=(Value.ref r,[])) rfl ?_)
 try dsimp only
 refine wpAny_bind (wpAny_field er dr (x:=.ref a) rfl ?_);refine wpAny_bind (wpAny_field er dr (x:=rawInt (-1)) rfl ?_);show wpAny _ _ (if(-1:Int)<0 then _ else _) _ _ s;rw[if_pos nofun];refine wpAny_bind (wpAny_rule ?_);refine wpAny_bind ?_
 wp_delta
 refine wpAny_bind (wpAny_setField er dr (by simp) ?_);have er2:=Jb (Obj.mapFields λx=>x.setIfInBounds 1 (rawInt (-1))) er (Obj.isFreed_of_fields (Obj.data_mapFields dr _));have dr2:(Obj.mapFields (λx=>x.setIfInBounds 1 (rawInt (-1))) orr).data=.fields #[.ref a,rawInt (-1)]:=by rw[Obj.data_mapFields dr];simp
 refine wpAny_setField er2 dr2 (by simp) ?_;refine wpAny_bind ?_;unfold Builtin.SmallTypes.stopIteration;show wpAny _ _ (newExc (.type "StopIteration") [] >>= _) _ _ _;refine wpAny_bind ?_;simp only[newExc,newTuple];refine wpAny_bind (wpAny_newObj_type ?_ (by size_fits));refine wpAny_bind (m:=firstArgMember _ _) (wpAny_of_eq (a:=Value.none) (by first | rfl | (simp only[firstArgMember];rfl)) ?_);refine wpAny_newObj_type ?_ (by size_fits);simp only[raiseNew];refine wpAny_bind (wpAny_handled ?_)
 first | rw[show A.in1.handled=none from hh] | rw[hh]
 refine wpAny_bind (wpAny_pure (wpAny_throw ?_));refine wpAny_bind (wpAny_isInstance (T:="StopIteration") (b:=true) ⟨_,IY _ rfl,rfl⟩ isSubtype_stop ?_);refine wpAny_pure (q _ λb o hb e=>?_);exact IS _ (IS _ ((IX _ _ (Ne.symm hb)).trans ((IX _ _ (Ne.symm hb)).trans e)))
theorem pW{r a:Addr}{i:Int}{Q:JS}(ir:dN s.heap r a i)(q:Q (.ref r) s):wpAny (model prog w) A (pyIter (.ref r)) Q E s:=by
 refine wpAny_pyIter_slot ir.ty xb (wpAny_call_entry xb ir.ty yG ?_ (x4 _));show wpAny _ _ (ret (.ref r)) _ _ s;exact wpAny_pure ⟨_,rfl,"reversed",_,ir.ty,kc.lookup,q⟩
end
theorem v_{prog:J3}{w:J9}{A:J8}(hh:A.handled=none)(r a:Addr)(hne:a≠r)(us:Array Value)(hz:us.size<2 ^ 62) :
  Walks prog w A r [r,a] [r] us.size (λi v=>us[us.size-1-i]?=some v) (λi h=>i<=us.size/\dN h r a ((us.size:Int)-1-(i:Int))/\h.IsTuple a us) where
 sub:=λb hb=>by simp at hb;simp[hb]
 frame:=λ_ _ _ x kp=>⟨x.1,by obtain⟨o,e,rr⟩:=x.2.1;exact⟨o,kp r (by simp) o e,rr⟩,by obtain⟨o,e,rr⟩:=x.2.2;exact⟨o,kp a (by simp) o e,rr⟩⟩
 item:=λi s Q E hi x q=>by
  have e1:(us.size:Int)-1-(i:Int)=((us.size-1-i:Nat):Int):=by omega
  have ir:=x.2.1;rw[e1]at ir;have hx:us[us.size-1-i]?=some (us[us.size-1-i]'⋯):=Array.getElem?_eq_getElem ⋯;refine yu ir x.2.2 hx hz λh' tk ir' sb=>?_;have e2:((us.size-1-i:Nat):Int)-1=(us.size:Int)-1-((i+1:Nat):Int):=by omega
  rw[e2]at ir';refine q _ h' tk hx ⟨hi,ir',?_⟩ λb o hb eo=>(sb.2 b (λz=>hb (by simp[z]))).trans eo;obtain⟨o,eo,rr⟩:=x.2.2;exact⟨o,(sb.2 a hne).trans eo,rr⟩
 done:=λs Q E x q=>by
  have e1:(us.size:Int)-1-(us.size:Int) = -1:=by omega
  have ir:=x.2.1;rw[e1]at ir;exact Bb hh ir λh' ex=>q h' s.toks λb o hb eo=>ex b o (λz=>hb (by simp[z])) eo
 self:=λ_ _ _ _ x q=>pW x.2.1 q
theorem Bm:typeLookup (.type "reversed") "__len__"=pure none:=by rw[typeLookup_type,builtinLookup_eq_fast];kernel_rfl
section
variable {prog:J3}{w:J9}{A:J8}{E:JS}{s:JW}
theorem xE{r a:Addr}{i:Nat}{us:Array Value}{Q:JS}(ir:dN s.heap r a ((i:Int)-1))(ha:s.heap.IsTuple a us)(hi:i<=us.size)(hz:us.size<2 ^ 62)
  (q:∀t tk,Q (.int (i:Int) t) {s with toks:=tk}):wpAny (model prog w) A (call (.builtin "reversed.__length_hint__") [.ref r]) Q E s:=by
 obtain⟨orr,er,cr,dr⟩:=id ir;have e62:(2:Nat) ^ 62=4611686018427387904:=by decide
 have e63:(2:Int) ^ 63=9223372036854775808:=by decide
 rw[e62]at hz;refine wpAny_call_entry qN ir.ty yO ?_ (y4 _);unfold Builtin.«reversed.__length_hint__»;refine wpAny_bind (wpAny_of_eq (a:=Value.ref r) rfl ?_);refine wpAny_bind (wpAny_field er dr (x:=.ref a) rfl ?_);rw[if_neg (show ¬ ((Value.ref a==Value.none)=true) from Jq)];refine wpAny_bind (len_tuple (show IsTup s.heap a us from ha) (by rw[e63];omega) ?_);refine wpAny_bind (wpAny_of_eq (a:=some (us.size:Int)) rfl ?_)
 try dsimp only
 refine wpAny_bind (wpAny_field er dr (x:=rawInt ((i:Int)-1)) rfl ?_);show wpAny _ _ (if(us.size:Int)<(i:Int)-1+1 then _ else _) _ _ _;rw[if_neg ⋯];have e1:(i:Int)-1+1=(i:Int):=by omega
 rw[e1];refine wpAny_bind (wpAny_mkInt (wpAny_pure ⟨_,rfl,q _ _⟩))
set_option maxHeartbeats 1000000 in
theorem wk{r a:Addr}{i:Nat}{us:Array Value}{Q:Bool->Shared->Prop}(ir:dN s.heap r a ((i:Int)-1))(ha:s.heap.IsTuple a us)(hi:i<=us.size)(hz:us.size<=sizeLine)
  (q:∀b tk,Q b {s with toks:=tk}):wpAny (model prog w) A (Builtin.List.listLengthHint (.ref r)) Q E s:=by
 unfold Builtin.List.listLengthHint;refine wpAny_bind (wpAny_specialOf ir.ty Bm ?_)
 try dsimp only
 rw[if_neg nofun,if_neg nofun];refine wpAny_bind (wpAny_specialOf ir.ty qN.lookup ?_);have sp:splitId "reversed.__length_hint__"=some ("reversed","__length_hint__"):=by decide +kernel
 dsimp only;rw[sp];dsimp only;refine wpAny_bind (wpAny_isInstance (b:=true) ir.ty (by rw[isSubtype_type];kernel_rfl) ?_);rw[if_neg nofun,if_neg (by decide +kernel)];refine wpAny_bind (wpAny_rule ?_);refine wpAny_bind (wpAny_of_eq (qN.bind _) ?_);have h62:us.size<2 ^ 62:=JE hz (by decide +kernel);refine wpAny_bind (wpAny_attempt (xE ir ha hi h62 λt tk=>?_));dsimp only;have zs:sizeLine<2 ^ 62:=by decide +kernel
 have e62:(2:Nat) ^ 62=4611686018427387904:=by decide
 have e63:(2:Int) ^ 63=9223372036854775808:=by decide
 rw[e62]at zs;have z0:(0:Int)<=(i:Int):=by omega
 have z1:(i:Int)<=(sizeLine:Int):=by omega
 have z2:(i:Int).toNat<=sizeLine:=by omega
 generalize(i:Int)=zi at z0 z1 z2 ⊢;refine wpAny_bind (wpAny_pure ?_);show wpAny _ _ (if(!Builtin.List.listFitsIndex zi)=true then _ else _) _ _ _;rw[fitsIndex_both (by rw[e63];omega) (by rw[e63];omega),if_neg nofun,if_neg ⋯,tK z2,if_neg nofun];exact wpAny_pure (q _ _)
set_option maxHeartbeats 1000000 in
theorem tM{R:Result->Shared->Prop}{r a B:Addr}{us:Array Value}{c:Nat}(hh:A.handled=none)(ir:dN s.heap r a ((us.size:Int)-1))(ha:s.heap.IsTuple a us)(hz:us.size<=sizeLine)(hra:a≠r)(hB:s.heap.get? B=some {cls:=.type "list",data:=.seq #[] c})(hBr:B≠r)(hBa:B≠a)
  (q:∀h' tk acc c',(∀b o,b≠B->b≠r->s.heap.get? b=some o->h'.get? b=some o)->h'.get? B=some {cls:=.type "list",dict:=none,data:=.seq acc c',slots:=#[]}->ItemsOf (λi v=>us[us.size-1-i]?=some v) acc us.size->R (.ok (.ret .none)) {s with heap:=h',toks:=tk}) :
  wpAny (model prog w) A.in1 (Builtin.List.listExtendWith (.ref B) (.ref r) .none)
   (λfin s'=>match fin with | .done f=>R (.ok f) s' | .again c'=>c'.quiet=true/\codeAny (model prog w) A c' R s') (λe s'=>R (.error e) s') s:=by
 have W:=v_ (prog:=prog) (w:=w) (A:=A.in1) hh r a hra us (JE hz (by decide +kernel));have FA:0<=us.size/\dN s.heap r a ((us.size:Int)-1-((0:Nat):Int))/\s.heap.IsTuple a us:=⟨Jp _,by simpa using ir,ha⟩;have hBf:B∉[r,a]:=by simp[hBr,hBa]
 unfold Builtin.List.listExtendWith;refine wpAny_bind (wpAny_typeOf ir.ty ?_);have k1:Builtin.List.listSameRef (.ref B) (.ref r)=false:=by simp[Builtin.List.listSameRef,hBr]
 rw[if_neg (by rw[k1];decide)];refine wpAny_bind (pW ir ?_);refine wpAny_bind (wpAny_holding (wk (i:=us.size) ir ha (Jo _) hz λb tk=>?_));have loop:∀(h2:Heap) (tk2 c2:Nat),(∀b o,b≠B->s.heap.get? b=some o->h2.get? b=some o)->h2.get? B=some {cls:=.type "list",data:=.seq #[] c2} ->
   codeAny (model prog w) A (.builtin "list.extend.loop" ⟨[.ref B,.ref r,.none],[]⟩) R {s with heap:=h2,toks:=tk2}:=by
  intro h2 tk2 c2 kp eB;have st2:=W.frame 0 s.heap h2 FA λb hb o e=>kp b o (λz=>hBf (z▸hb)) e;refine codeAny_extend_loopS W.toS hz _ hBf _ us.size 0 {s with heap:=h2,toks:=tk2} _ _ rfl (Jp _) st2 eB (ItemsOf.nil _) λs' acc' c' hm hB' hacc=>?_;rw[Moved.eq_with hm];refine q s'.heap s'.toks acc' c' (λb o n1 n2 e=>hm.heap b o (λz=>?_) (kp b o n1 e)) hB' hacc;simp only[Jg,List.not_mem_nil,or_false]at z;rcases z with z | z
  ·exact n1 z
  ·exact n2 z
 cases b with
 |false=>
  rw[if_neg (by decide +kernel)];exact wpAny_pure ⟨plainId_quiet F.plain_extend_loop _,loop s.heap tk c (λb o _ e=>e) hB⟩
 |true=>
  rw[if_pos (by rfl)];refine wpAny_bind (wpAny_rule (wpAny_bind ?_));unfold Builtin.List.listTouch;show wpAny _ _ (updateSeq B (λx=>x.push .none) >>= λ_=>updateSeq B (λx=>x.pop)) _ _ _;refine wpAny_bind (wpAny_updateSeq hB rfl ?_);have eB1:=Jb (Obj.mapSeq (λx:Array Value=>x.push Value.none)) hB rfl;refine wpAny_updateSeq eB1 rfl ?_;have eB2:=Jb (Obj.mapSeq (λx:Array Value=>x.pop)) eB1 rfl;refine wpAny_pure ⟨plainId_quiet F.plain_extend_loop _,loop _ tk _ (λb o n1 e=>?_) eB2⟩;exact(IX _ _ (Ne.symm n1)).trans ((IX _ _ (Ne.symm n1)).trans e)
theorem yn{R:Result->Shared->Prop}{r a B:Addr}{us:Array Value}(hh:A.handled=none)(ir:dN s.heap r a ((us.size:Int)-1))(ha:s.heap.IsTuple a us)(hz:us.size<=sizeLine)(hra:a≠r)(hB:s.heap.get? B=some {cls:=.type "list",data:=.seq #[]})(hBr:B≠r)(hBa:B≠a)
  (q:∀h' tk acc c',(∀b o,b≠B->b≠r->s.heap.get? b=some o->h'.get? b=some o)->h'.get? B=some {cls:=.type "list",dict:=none,data:=.seq acc c',slots:=#[]}->ItemsOf (λi v=>us[us.size-1-i]?=some v) acc us.size->R (.ok (.ret .none)) {s with heap:=h',toks:=tk}) :
  wpAny (model prog w) A.in1 (Builtin.«list.__init__» ⟨[.ref B,.ref r],[]⟩)
   (λfin s'=>match fin with | .done f=>R (.ok f) s' | .again c'=>c'.quiet=true/\codeAny (model prog w) A c' R s') (λe s'=>R (.error e) s') s:=by
 show wpAny _ _ (do let old <- Builtin.List.listItems (.ref B);Builtin.List.listUpdate (.ref B) (λ_=>#[]);letGo old.toList.reverse;Builtin.List.listExtendWith (.ref B) (.ref r) .none) _ _ s;refine wpAny_bind ?_;unfold Builtin.List.listItems;refine wpAny_bind (wpAny_seqItems hB rfl (wpAny_pure ?_));show wpAny _ _ (updateSeq B (λ_=>#[]) >>= λ_=>letGo (#[]:Array Value).toList.reverse >>= λ_=>Builtin.List.listExtendWith (.ref B) (.ref r) .none) _ _ s;refine wpAny_bind (wpAny_updateSeq hB rfl ?_);have eB:=Jb (Obj.mapSeq (λ_=>(#[]:Array Value))) hB rfl;have kp:∀b o,b≠B->s.heap.get? b=some o->(s.heap.update B (Obj.mapSeq (λ_=>(#[]:Array Value)))).get? b=some o:=λb o n e=>(IX _ _ (Ne.symm n)).trans e;refine wpAny_bind (wpAny_letGo ?_);refine tM hh ?_ ?_ hz hra eB hBr hBa λh' tk acc c' hk hB' hacc=>q h' tk acc c' (λb o n1 n2 e=>hk b o n1 n2 (kp b o n1 e)) hB' hacc
 ·obtain⟨o,e,rr⟩:=ir;exact⟨o,kp r o (Ne.symm hBr) e,rr⟩
 ·obtain⟨o,e,rr⟩:=ha;exact⟨o,kp a o (Ne.symm hBa) e,rr⟩
theorem oV{r a:Addr}{us:Array Value}{Q:JS}(hh:A.handled=none)(ir:dN s.heap r a ((us.size:Int)-1))(ha:s.heap.IsTuple a us)(hz:us.size<=sizeLine)(hra:a≠r)
  (q:∀h' tk acc c',(∀b o,b≠r->s.heap.get? b=some o->h'.get? b=some o)->h'.get? s.heap.objs.size=some {cls:=.type "list",dict:=none,data:=.seq acc c',slots:=#[]}->ItemsOf (λi v=>us[us.size-1-i]?=some v) acc us.size->Q (.ref s.heap.objs.size) {s with heap:=h',toks:=tk}) :
  wpAny (model prog w) A (call (.type "list") [.ref r]) Q E s:=by
 refine callType_codes (Q₁:=λob s1=>ob=.ref s.heap.objs.size/\s1={s with heap:=s.heap.push {cls:=.type "list",data:=.seq #[]} }) F.called_list (F.typeCall_list_1 _) F.entry_list_init (code_list_new _ ⟨rfl,rfl⟩) λob s1 h1=>?_;obtain⟨rfl,rfl⟩:=h1;have eB:(s.heap.push {cls:=.type "list",data:=.seq #[]}).get? s.heap.objs.size=some {cls:=.type "list",data:=.seq #[]}:=IY _ rfl;have lr:s.heap.objs.size≠r:=by obtain⟨o,e,_⟩:=ir;exact Nat.ne_of_gt (Jr e)
 have la:s.heap.objs.size≠a:=by obtain⟨o,e,_⟩:=ha;exact Nat.ne_of_gt (Jr e)
 refine⟨⟨_,eB,rfl⟩,F.args_list_init_2 _ _,yn (A:=A.in1) hh ?_ ?_ hz hra eB lr la λh' tk acc c' hk hB' hacc=>?_⟩
 ·obtain⟨o,e,rr⟩:=ir;exact⟨o,IS _ e,rr⟩
 ·obtain⟨o,e,rr⟩:=ha;exact⟨o,IS _ e,rr⟩
 ·exact⟨rfl,q h' tk acc c' (λb o n e=>hk b o (Jk (Jr e)) n (IS _ e)) hB' hacc⟩
end
noncomputable def nO(K:JT)(t:TE):TE:=λσ H Q=>t σ H λx H1=>∃a xs,x=.ref a/\bc K H1 a xs/\∀p,H1 p=none->Q (.ref p) (aC H1 p (.lst xs.reverse))
section
variable {X:Cx}{e:Expr}{t:TE}{p p2 pos pos2:Pos}
set_option maxHeartbeats 1000000 in
theorem v8(hc:X.calm=true)(ha:PE X e t)(g1:Gl X "list")(m1:X.mg "list"=none)(g2:Gl X "reversed")(m2:X.mg "reversed"=none)
  (he1:autoParam (starEach [.Call (.Name "reversed" p2) [e] [] pos2] X.env=[(false,eval (.Call (.Name "reversed" p2) [e] [] pos2) X.env)]) zz0._auto_1) (he2:autoParam (starEach [e] X.env=[(false,eval e X.env)]) zz0._auto_1) :
  PE X (.Call (.Name "list" p) [.Call (.Name "reversed" p2) [e] [] pos2] [] pos) (nO X.K t):=by
 intro pins s σ H Q I h;have hl:bootBuiltins "list"=some (.type "list"):=by decide +kernel
 have hr:bootBuiltins "reversed"=some (.type "reversed"):=by decide +kernel
 refine wpAny_Call_Name_kw (b5 I g1 m1 hl ?_);refine PyProof.Rows.callWith_type1 ?_ he1 rfl;rw[he1];show wpAny _ _ (spliced [(false,eval (.Call (.Name "reversed" p2) [e] [] pos2) X.env)]) _ _ _;refine Calls.spliced_cons ?_;refine wpAny_Call_Name_kw (b5 (I.tok _) g2 m2 hr ?_);refine PyProof.Rows.callWith_type1 ?_ he2 rfl;rw[he2];show wpAny _ _ (spliced [(false,eval e X.env)]) _ _ _;refine Calls.spliced_cons (bM (ha pins _ σ H _ (I.tok _) h) λu s1 ⟨x,H1,I1,rx,a,xs,ex,hq,q⟩=>Calls.spliced_nil ?_);subst ex;cases rx;obtain⟨its,rv,p1,hz⟩:=I1.tuple hq;have hln:=rv.length;have zs:sizeLine<2 ^ 62:=by decide +kernel
 have e62:(2:Nat) ^ 62=4611686018427387904:=by decide
 have e63:(2:Int) ^ 63=9223372036854775808:=by decide
 rw[e62]at zs;refine yd p1 (by rw[IZ,e63];omega) λtk=>Calls.spliced_nil ?_;have hlt:a<s1.heap.objs.size:=by obtain⟨o,e,_⟩:=p1;exact Jr e
 refine oV (us:=its.toArray) (a:=a) (I.ok.hd hc) ⟨_,IY _ rfl,rfl,rfl⟩ (by obtain⟨o,e,rr⟩:=p1;exact⟨o,IS _ e,rr⟩) (by rw[IZ];omega) (Jk hlt) λh' tk' acc c' hk hB hacc=>?_;have sz:(s1.heap.push (Cl a ((its.toArray.size:Int)-1))).objs.size=s1.heap.objs.size+1:=Heap.size_push ..;have eacc:acc=its.reverse.toArray:=by
  obtain⟨hs,hat⟩:=hacc;have hs:acc.size=its.length:=by simpa using hs
  apply Array.ext';apply List.ext_getElem?;intro i;rw[Array.getElem?_toList]
  by_cases hi:i<its.length
  ·have e1:acc[i]?=some (acc[i]'⋯):=Array.getElem?_eq_getElem ⋯
   have e2:=hat i _ e1;rw[e1,List.getElem?_reverse hi,<- e2];simp
  ·rw[Array.getElem?_eq_none ⋯,List.getElem?_eq_none (by rw[Ji];omega)]
 have kp:∀b o,s1.heap.get? b=some o->h'.get? b=some o:=λb o eo=>hk b o (Jk (Jr eo)) (IS _ eo);have hfr:H1 (s1.heap.push (Cl a ((its.toArray.size:Int)-1))).objs.size=none:=I1.hok.fresh (by rw[sz];exact Nat.le_succ _);refine⟨.ref _,_,I1.laid (t':=tk') (o:=.lst xs.reverse) kp (by rw[sz];exact Nat.le_succ _) ⟨by rw[Ji];exact hz,its.reverse,c',rv.reverse,?_⟩,rfl,q _ hfr⟩;rw[<- eacc];exact hB
end
section
variable {prog:J3}{w:J9}{A:J8}{E:JS}
theorem uF{i0 a:Addr}{us:Array Value}(hne:a≠i0):∀(n i:Nat) (s:JW) (Q:List Value->Shared->Prop),s.heap.IsListIter i0 a i->s.heap.IsList a us->i+n<=us.size ->
  (∀h',h'.IsListIter i0 a (i+n)->Heap.SameBut i0 s.heap h'->Q ((us.toList.drop i).take n) {s with heap:=h' })->wpAny (model prog w) A (draw (.ref i0) n) Q E s
 |0,i,s,Q,ii,ha,hn,q=>by
  unfold draw;have:=q s.heap ii (Heap.SameBut.refl _ _);rw[JP]at this;exact wpAny_pure this
 |n+1,i,s,Q,ii,ha,hn,q=>by
  have hx:us[i]?=some (us[i]'⋯):=Array.getElem?_eq_getElem ⋯;unfold draw;refine wpAny_bind (wpAny_pyNext_list_item ii ha hx λh1 i1 s1=>?_);dsimp only;have ha1:Heap.IsList h1 a us:=by obtain⟨o,e,rr⟩:=ha;exact⟨o,(s1.2 a hne).trans e,rr⟩
  refine wpAny_bind (wpAny_holding (uF hne n (i+1) {s with heap:=h1} _ i1 ha1 ⋯ λh2 i2 s2=>?_));refine wpAny_pure ?_;have:=q h2 (by rw[show i+(n+1)=i+1+n by omega];exact i2) (s1.trans s2);have e:us.toList.drop i=us[i]'⋯::us.toList.drop (i+1):=by
   rw[List.drop_eq_getElem_cons (by simpa using(by omega:i<us.size))];simp
  rw[e,List.take_succ_cons]at this;exact this
theorem v9{s:JW}{a:Addr}{us:Array Value}{targets:List (Bool×(Value->Sem Unit))}{Q:Unit->Shared->Prop}(hh:A.handled=none)(ha:s.heap.IsList a us)
  (hn:targets.length=us.size) (hs:targets.findIdx? (·.1)=none)
  (q:∀h',Heap.ExtBut s.heap.objs.size s.heap h'->wpAny (model prog w) A (assignInOrder (targets.map (·.2)) us.toList) Q E {s with heap:=h' }) :
  wpAny (model prog w) A (unpack (.ref a) targets) Q E s:=by
 have hlt:a≠s.heap.objs.size:=by obtain⟨o,ho,_⟩:=ha;exact Jk (Jr ho)
 have ty:s.TypeIs (.ref a) "list":=by obtain⟨o,ho,hc,_⟩:=ha;exact⟨o,ho,hc⟩
 unfold unpack;rw[hn,hs];refine wpAny_bind (wpAny_holding ?_);unfold unpackItems;refine wpAny_bind ?_;unfold notIterableAtAll;refine wpAny_bind (wpAny_specialOf ty PySem.F.slot_list_iter.lookup ?_);refine wpAny_pure ?_;simp only[Bool.false_eq_true,if_false];refine wpAny_bind (wpAny_holding (wpAny_pyIter_list ha ?_));have hap:Heap.IsList (s.heap.push {cls:=.type "list_iterator",data:=.fields #[.ref a,.int 0 0]}) a us:=ha.push _;refine wpAny_bind (wpAny_holding (uF hlt us.size 0 _ _ ⟨_,IY _ rfl,rfl,rfl⟩ hap ⋯ λh1 i1 s1=>?_));have al:List.take us.size (List.drop 0 us.toList)=us.toList:=by rw[JQ];exact List.take_of_length_le (by simp)
 rw[al,if_neg (by simp)];have ha1:Heap.IsList h1 a us:=by obtain⟨o,e,rr⟩:=hap;exact⟨o,(s1.2 a hlt).trans e,rr⟩
 refine wpAny_bind (wpAny_holding (wpAny_pyNext_list_end hh i1 ha1 (by simp) λh2 e2=>?_));simp only[Option.isSome_none,Bool.false_eq_true,if_false];exact wpAny_pure (q h2 λb o hb e=>e2 b o hb (s1.extBut b o hb (IS _ e)))
end
noncomputable def Aa(K:JT)(n:Nat)(t:BH):TG:=λv σ H Q=>∃a xs,v=.ref a/\aW K H a xs/\xs.length=n/\t xs σ H Q
theorem B1{X:Cx}{es:Kb}{k:Nat}{t:BH}{n:Nat}{pos:Pos}(hc:X.calm=true)(h:Em X es t)
  (hn:autoParam ((assignEach es X.env).length=n) zz0._auto_1) (hst:autoParam ((assignEach es X.env).findIdx? (·.1)=none) zz0._auto_1):PG X (.Tuple es k pos) (Aa X.K n t):=by
 intro pins s σ H v u Q I r hw;obtain⟨a,xs,e1,hq,hl,hw⟩:=hw;subst e1;cases r;obtain⟨its,rv,pl,hz⟩:=I.list hq;rw[arm_assign_Tuple];refine wpAny_bind (wpAny_standAt (v9 (us:=its.toArray) (I.ok.hd hc) pl.isList (by simp[hn,<- hl,rv.length]) hst λh' hx=>?_));have I1:Inv X pins σ H {s with heap:=h' }:=I.kept (t':=s.toks) λb o e=>hx b o (Jk (Jr e)) e;exact h pins _ σ H xs _ Q I1 (by simpa using rv) hw
theorem kN:isSubtype (.type "range_iterator") (.type "reversed")=pure false:=by rw[isSubtype_type];kernel_rfl
noncomputable abbrev Bp(a n c:Int):Obj:={cls:=.type "range_iterator",data:=.fields #[rawInt a,rawInt n,rawInt c]}
section
variable {prog:J3}{w:J9}{A:J8}{E:JS}{s:JW}
theorem kC{r:Addr}{a b:Int}{t u v:Tok}{Q:JS}(hr:IsRange s.heap r a b 1 t u v)(h1:-(2 ^ 62)<=a)(h2:a<2 ^ 62)(h3:-(2 ^ 62)<=b)(h4:b<2 ^ 62)
  (h:Q (.ref s.heap.objs.size) {s with heap:=s.heap.push (Bp (a+(Builtin.Range.rangeSize a b 1-1)*1) (Builtin.Range.rangeSize a b 1) (-1))}):wpAny (model prog w) A (call (.builtin "range.__reversed__") [.ref r]) Q E s:=by
 have ty:s.TypeIs (.ref r) "range":=⟨_,hr,rfl⟩;refine wpAny_call_entry F.slot_range_reversed ty F.entry_range_reversed ?_ (F.args_range_reversed_1 _);unfold Builtin.«range.__reversed__»;refine wpAny_bind (wpAny_of_eq (a:=Value.ref r) rfl ?_);refine wpAny_bind ?_;unfold Builtin.Range.rangeFields;refine wpAny_bind (wpAny_field hr rfl (x:=.int a t) rfl ?_);refine wpAny_bind (wpAny_of_eq (a:=some a) rfl ?_);refine wpAny_bind (wpAny_field hr rfl (x:=.int b u) rfl ?_);refine wpAny_bind (wpAny_of_eq (a:=some b) rfl ?_);refine wpAny_bind (wpAny_field hr rfl (x:=.int 1 v) rfl ?_);refine wpAny_bind (wpAny_of_eq (a:=some 1) rfl ?_);refine wpAny_pure ?_;dsimp only;have hs:=rangeSize_one a b;have f63:(2:Int) ^ 63=9223372036854775808:=by decide
 have f62:(2:Int) ^ 62=4611686018427387904:=by decide
 rw[f62]at h1 h2 h3 h4;have fit:∀x:Int,-9223372036854775808<=x->x<9223372036854775808->Builtin.Range.rangeFitsLong x=true:=λx g1 g2=>by
  unfold Builtin.Range.rangeFitsLong;rw[f63];simp[g1,g2]
 have hn:0<=Builtin.Range.rangeSize a b 1/\Builtin.Range.rangeSize a b 1<9223372036854775808:=by rw[hs];split<;>omega
 rw[fit a ⋯ ⋯,fit b ⋯ ⋯,fit 1 ⋯ ⋯,fit (-1) ⋯ ⋯,fit (a-1) ⋯ ⋯,fit _ ⋯ hn.2];show wpAny _ _ (newFields "range_iterator" _ >>= _) _ _ _;unfold newFields;exact wpAny_bind (wpAny_newObj_type (wpAny_pure ⟨_,rfl,h⟩))
theorem kH{r:Addr}{a b:Int}{t u v:Tok}{Q₁:JS}(hr:IsRange s.heap r a b 1 t u v)(h1:-(2 ^ 62)<=a)(h2:a<2 ^ 62)(h3:-(2 ^ 62)<=b)(h4:b<2 ^ 62)
  (h:Q₁ (.ref s.heap.objs.size) {s with heap:=s.heap.push (Bp (a+(Builtin.Range.rangeSize a b 1-1)*1) (Builtin.Range.rangeSize a b 1) (-1))}) :
  codeAny (model prog w) A (.call (.builtin "reversed.__new__") ⟨[.type "reversed",.ref r],[]⟩) (wants Q₁ E) s:=by
 have ty:s.TypeIs (.ref r) "range":=⟨_,hr,rfl⟩;refine codeAny_of_tree ?_;show wpAny _ A.in1 (do checkBuiltinCall "reversed.__new__" ⟨[.type "reversed",.ref r],[]⟩;again (.builtin "reversed.__new__" ⟨[.type "reversed",.ref r],[]⟩)) _ _ s;refine wpAny_bind (wpAny_of_eq (F.newCall_reversed_1 _) (wpAny_pure ⟨plainId_quiet F.plain_reversed_new _,codeAny_builtin F.entry_reversed_new ?_⟩));rw[Around.under_plainId F.plain_reversed_new _];unfold Builtin.«reversed.__new__»;refine wpAny_bind (wpAny_of_eq (newClass_reversed _) ?_)
 try dsimp only
 refine wpAny_bind (wpAny_of_eq (a:=()) (by first | rfl | kernel_rfl) ?_);refine wpAny_bind (wpAny_of_eq (a:=()) (by first | rfl | kernel_rfl) ?_)
 try dsimp only
 refine wpAny_bind (wpAny_specialOf ty F.slot_range_reversed.lookup ?_)
 try dsimp only
 refine wpAny_bind (wpAny_of_eq (F.slot_range_reversed.bind _) ?_)
 try dsimp only
 first
 |rw[if_neg (show ¬ ((Value.builtin "range.__reversed__" == Value.none)=true) from Jq)]
 | (show wpAny _ _ (if(Value.builtin "range.__reversed__" == Value.none)=true then _ else _) _ _ _;rw[if_neg (show ¬ ((Value.builtin "range.__reversed__" == Value.none)=true) from Jq)])
 refine wpAny_bind (wpAny_rule ?_);refine wpAny_bind (m:=runValue (.call (.builtin "range.__reversed__") ⟨[.ref r],[]⟩)) (show wpAny _ _ (call (.builtin "range.__reversed__") [.ref r]) _ _ _ from kC hr h1 h2 h3 h4 ?_)
 first
 |exact wpAny_pure h
 |exact wpAny_bind (wpAny_pure (wpAny_pure h))
theorem kE{r:Addr}{a b:Int}{t u v:Tok}{Q:JS}(hr:IsRange s.heap r a b 1 t u v)(h1:-(2 ^ 62)<=a)(h2:a<2 ^ 62)(h3:-(2 ^ 62)<=b)(h4:b<2 ^ 62)
  (h:Q (.ref s.heap.objs.size) {s with heap:=s.heap.push (Bp (a+(Builtin.Range.rangeSize a b 1-1)*1) (Builtin.Range.rangeSize a b 1) (-1))}):wpAny (model prog w) A (call (.type "reversed") [.ref r]) Q E s:=by
 refine callType_other (U:="range_iterator") (Q₁:=λobj s₁=>obj=.ref s.heap.objs.size/\s₁={s with heap:=s.heap.push (Bp (a+(Builtin.Range.rangeSize a b 1-1)*1) (Builtin.Range.rangeSize a b 1) (-1))}) (by decide +kernel) F.create_reversed ⟨_,_,F.mro_reversed⟩ F.made_reversed kN (F.typeCall_reversed_1 _) (kH hr h1 h2 h3 h4 ⟨rfl,rfl⟩) ?_;rintro obj s₁ ⟨rfl,rfl⟩;exact⟨⟨_,IY _ rfl,rfl⟩,h⟩
end
noncomputable def EM(hi:Int)(n:Nat):It:=⟨λi _=>i<n,λi H x H'=>H'=H/\x=.int (hi-i),λi _=>n<=i⟩
theorem uo{P:J3}{w:J9}{K:JT}{tg:Expr}(it:Addr)(lo:Int)(n:Nat):nI P w K tg (EM lo n) [it] it (λi h=>IsRangeIter h it (lo+(i:Nat)*(-1)) ((n:Int)-(i:Nat)) (-1)) where
 mem:=by simp
 obj:=λi h st b hb=>by
  have e:b=it:=by simpa using hb
  subst e;exact⟨_,st,λv z=>by
   have z':Data.fields _=Data.cell v:=z;cases z'⟩
 keep:=λi h h' st k=>k it (by simp) _ st
 item:=by
  intro X hP hw hK hc i pins s σ H E I hf st hg;subst hP hw hK;obtain⟨f0,f1,f2,f3,f4,f5⟩:=hf it (by simp);have W:=Walks.range (prog:=X.prog) (w:=X.w) (I.ok.hd hc) it lo (-1) n;refine W.item i s _ _ hg st λv h' tk hv st' kk=>?_;obtain⟨t,rfl⟩:=hv;have I1:Inv X pins σ H {s with heap:=h',toks:=tk}:=I.turned (λb o hb e=>kk b o (by simpa using hb) e) f0 f1 f3 f4 f5;refine⟨_,rfl,pZ (s:={s with heap:=h',toks:=tk}) (n:="range_iterator") st' rfl rfl nofun ⟨.int (lo-i),H,I1,⟨t,?_⟩,⟨rfl,rfl⟩,st',λb hb=>(hf b hb).1⟩⟩;rw[show lo+(i:Int)*(-1)=lo-i by omega]
 done:=by
  intro X hP hw hK hc i pins s σ H E I hf st hg;subst hP hw hK;obtain⟨f0,f1,f2,f3,f4,f5⟩:=hf it (by simp);exact wpAny_pyNext_range_end (I.ok.hd hc) st (by have:n<=i:=hg;omega) λh' eb=>⟨rfl,I.turned (t':=s.toks) (λb o hb e=>eb b o hb e) f0 f1 f3 f4 f5⟩
 self:=λ_ _ _ _ _ st h=>wpAny_pyIter_rangeiter st h
section
variable {X:Cx}{tg:Expr}
theorem pP{pins:JU}{σ:St}{H:Hp}{s:JW}{R:It->Hp->Prop}{E:JS}{lo hi:Int}{t u v:Tok}{tk:Nat}(I:Inv X pins σ H s)(h1:-(2 ^ 62)<=lo)(h2:lo<2 ^ 62)(h3:-(2 ^ 62)<=hi)(h4:hi<2 ^ 62)
  (q:R (EM (lo+(hi-lo).toNat-1) (hi-lo).toNat) H):wpAny (model X.prog X.w) X.A (call (.type "reversed") [.ref s.heap.objs.size]) (λv s'=>wpAny (model X.prog X.w) X.A (pyIter v) (Fp X pins σ tg R) E s') E {s with heap:=s.heap.push {cls:=.type "range",data:=.fields #[.int lo t,.int hi u,.int 1 v]},toks:=tk}:=by
 refine kE (s:={s with heap:=s.heap.push {cls:=.type "range",data:=.fields #[.int lo t,.int hi u,.int 1 v]},toks:=tk}) (IsRange.new ..) h1 h2 h3 h4 ?_;have I1:Inv X pins σ H {s with heap:=s.heap.push {cls:=.type "range",data:=.fields #[.int lo t,.int hi u,.int 1 v]},toks:=tk}:=I.kept λb o e=>IS _ e;have e0:Builtin.Range.rangeSize lo hi 1=(((hi-lo).toNat:Nat):Int):=by rw[rangeSize_one];split<;>omega
 rw[e0];have st:IsRangeIter ((s.heap.push {cls:=.type "range",data:=.fields #[.int lo t,.int hi u,.int 1 v]}).push (Bp (lo+((((hi-lo).toNat:Nat):Int)-1)*1) (((hi-lo).toNat:Nat):Int) (-1))) (s.heap.push {cls:=.type "range",data:=.fields #[.int lo t,.int hi u,.int 1 v]}).objs.size ((lo+(hi-lo).toNat-1)+((0:Nat):Int)*(-1)) ((((hi-lo).toNat:Nat):Int)-((0:Nat):Int)) (-1):=by
  rw[show(lo+(hi-lo).toNat-1)+((0:Nat):Int)*(-1)=lo+((((hi-lo).toNat:Nat):Int)-1)*1 by omega,show(((hi-lo).toNat:Nat):Int)-((0:Nat):Int)=(((hi-lo).toNat:Nat):Int) by omega];exact IY _ rfl
 refine wpAny_pyIter_rangeiter st ?_;refine⟨(s.heap.push {cls:=.type "range",data:=.fields #[.int lo t,.int hi u,.int 1 v]}).objs.size,[(s.heap.push {cls:=.type "range",data:=.fields #[.int lo t,.int hi u,.int 1 v]}).objs.size],_,_,H,rfl,
  I1.kept (t':=tk) λb o e=>IS _ e,uo _ (lo+(hi-lo).toNat-1) (hi-lo).toNat,st,λb hb=>?_,q⟩
 have e:b=(s.heap.push {cls:=.type "range",data:=.fields #[.int lo t,.int hi u,.int 1 v]}).objs.size:=by simpa using hb
 subst e;exact I1.fpOk (Jo _) (I1.hok.fresh (Jo _))
noncomputable def Ac(ta:TA):TI:=λσ H R=>ta σ H λvs H1=>∃j:Int,vs=[.int j]/\-(2 ^ 62)<=j/\j<2 ^ 62/\R (EM (j.toNat-1) j.toNat) H1
noncomputable def Au(ta:TA):TI:=λσ H R=>ta σ H λvs H1=>∃i j:Int,vs=[.int i,.int j]/\(-(2 ^ 62)<=i/\i<2 ^ 62/\-(2 ^ 62)<=j/\j<2 ^ 62)/\R (EM (i+(j-i).toNat-1) (j-i).toNat) H1
theorem CC{a b:Expr}{ta:TA}{p p2 pos pos2:Pos}(hg:Gl X "reversed")(hm:X.mg "reversed"=none)(g2:Gl X "range")(m2:X.mg "range"=none)(ha:PA X [a,b] ta)(hs:autoParam (starEach [a,b] X.env=[(false,eval a X.env),(false,eval b X.env)]) zz0._auto_1)(hs2:autoParam (starEach [b] X.env=[(false,eval b X.env)]) zz0._auto_1)
  (he1:autoParam (starEach [.Call (.Name "range" p2) [a,b] [] pos2] X.env=[(false,eval (.Call (.Name "range" p2) [a,b] [] pos2) X.env)]) zz0._auto_1) :
  PI X tg (.Call (.Name "reversed" p) [.Call (.Name "range" p2) [a,b] [] pos2] [] pos) (Au ta):=by
 intro pins s σ H R I h;refine Call_ (b5 I hg hm boot_reversed (PyProof.Rows.callWith_type1 ?_ he1 rfl));rw[he1];show wpAny _ _ (spliced [(false,eval (.Call (.Name "range" p2) [a,b] [] pos2) X.env)]) _ _ _;refine Calls.spliced_cons ?_;refine wpAny_Call_Name_kw (b5 I g2 m2 boot_range ?_);refine PyProof.Rows.callWith_type1 (bM (ha pos2 pins s σ H _ I h) λus s1 ⟨vs,H1,I1,r1,q1⟩=>?_) (by rw[hs,hs2]) (by rw[hs2];rfl);obtain⟨i,j,e,⟨q1,q2,q3,q4⟩,q⟩:=q1;subst e;cases r1 with
 |cons r rr=>
  cases rr with
  |cons r' rr=>
   cases rr;obtain⟨t,rfl⟩:=r;obtain⟨t',rfl⟩:=r';exact call_range_2 (Calls.spliced_nil (pP I1 q1 q2 q3 q4 q))
theorem BZ{a:Expr}{ta:TA}{p p2 pos pos2:Pos}(hg:Gl X "reversed")(hm:X.mg "reversed"=none)(g2:Gl X "range")(m2:X.mg "range"=none)(ha:PA X [a] ta)(hs:autoParam (starEach [a] X.env=[(false,eval a X.env)]) zz0._auto_1)
  (he1:autoParam (starEach [.Call (.Name "range" p2) [a] [] pos2] X.env=[(false,eval (.Call (.Name "range" p2) [a] [] pos2) X.env)]) zz0._auto_1) :
  PI X tg (.Call (.Name "reversed" p) [.Call (.Name "range" p2) [a] [] pos2] [] pos) (Ac ta):=by
 intro pins s σ H R I h;refine Call_ (b5 I hg hm boot_reversed (PyProof.Rows.callWith_type1 ?_ he1 rfl));rw[he1];show wpAny _ _ (spliced [(false,eval (.Call (.Name "range" p2) [a] [] pos2) X.env)]) _ _ _;refine Calls.spliced_cons ?_;refine wpAny_Call_Name_kw (b5 I g2 m2 boot_range ?_);refine PyProof.Rows.callWith_type1 (bM (ha pos2 pins s σ H _ I h) λus s1 ⟨vs,H1,I1,r1,q1⟩=>?_) hs rfl;obtain⟨j,e,q1,q2,q⟩:=q1;subst e;cases r1 with
 |cons r rr=>
  cases rr;obtain⟨t,rfl⟩:=r;exact call_range_1 (Calls.spliced_nil (pP I1 ⋯ ⋯ q1 q2 (by simpa using q)))
end
theorem uU{hi:Int}{n:Nat}{g:TG}{tb:TS}{D:gY}{σ:St}{H:Hp}(Pv:Nat->St->Hp->Prop)(h0:Pv 0 σ H)
  (hs:∀i σ H,i<n->Pv i σ H->g (.int (hi-i)) σ H λσ2 H2=>tb {D with nx:=Pv (i+1),ct:=Pv (i+1),bk:=D.nx} σ2 H2) (hd:∀σ H,Pv n σ H->D.nx σ H):t5 (EM hi n) g tb D σ H:=by
 refine⟨λi m σ H=>m=n-i/\i<=n/\Pv i σ H,⟨n,by simp,Jp _,h0⟩,?_⟩;rintro i m σ H ⟨rfl,hi,p⟩
 by_cases hlt:i<n
 ·refine .inr ⟨hlt,Pv (i+1),λσ' H' p'=>⟨n-(i+1),⋯,rfl,hlt,p'⟩,λx H' y=>?_⟩
  obtain⟨e,y⟩:=y;subst e y;exact hs i σ _ hlt p
 ·have e:i=n:=by omega
  subst e;exact .inl ⟨Jo _,hd σ H p⟩
section
variable {prog:J3}{w:J9}{A:J8}{E:JS}{s:JW}
open HT in
theorem iZ{t sl:Addr}{items:Array Value}{vl vu:Value}{lo hi:Option Int}{Q:JS}(ht:IsTup s.heap t items)(hs:s.heap.IsSliceOf sl vl vu .none)(pl:IsPart vl lo)(pu:IsPart vu hi)
  (hw:sIx items.size 0 lo=0/\sIx items.size items.size hi=items.size) (h:Q (.ref t) s):wpAny (model prog w) A (getItem (.ref t) (.ref sl)) Q E s:=by
 obtain⟨os,hos,hcs,hds⟩:=id hs;have hTs:s.TypeIs (.ref sl) "slice":=⟨os,hos,hcs⟩;unfold getItem
 try with_reducible refine wpAny_holding ?_
 first | refine wpAny_bind (wpAny_pure ?_) | skip
 refine wpAny_bind (wpAny_sequenceKey ht.typeIs nofun ?_);refine wpAny_bind (wpAny_callSpecial?_slot (name:=Str.ofString "__getitem__") ht.typeIs PyProof.Rows.slot_tuple_getitem
  (wpAny_call_entry PyProof.Rows.slot_tuple_getitem ht.typeIs entry_tuple_getitem ?_ (args_tuple_getitem _ _)))
 show wpAny _ _ (Builtin.Tuple.tupleItemsOf (.ref t) >>= _) _ _ s;refine wpAny_bind (tupleItemsOf_ ht ?_);refine wpAny_bind (wpAny_typeOf hTs ?_);rw[if_pos nofun];refine wpAny_bind (fX hs pl pu ?_);have hyes:(((sIx items.size 0 lo:Nat):Int)==0&&(1:Int)==1&&(sIx items.size items.size hi-sIx items.size 0 lo)==items.size)=true:=by
  rw[hw.1,hw.2];simp
 show wpAny _ _ (if(((sIx items.size 0 lo:Nat):Int)==0&&(1:Int)==1&&(sIx items.size items.size hi-sIx items.size 0 lo)==items.size)=true then _ else _) _ _ s;rw[if_pos hyes];refine wpAny_bind ?_;unfold Builtin.Tuple.tupleIsExact;refine wpAny_bind (wpAny_typeOf ht.typeIs ?_);refine wpAny_pure ?_;rw[if_pos nofun];refine wpAny_bind (wpAny_rule ?_);exact wpAny_pure ⟨_,rfl,wpAny_pure h⟩
end
section
variable {X:Cx}
end
noncomputable def DP(K:JT):V->Option Int->Option Int->Hp->VK->Prop:=λx lo hi H Q=>∃a xs,x=.ref a/\H a=some (.tup xs)/\∀p H',H' p=some (.tup (dE xs lo hi))->az H H'->Q (.ref p) H'
section
variable {X:Cx}
theorem fq:ES X (DP X.K):=by
 intro pins s σ H x v vl vu lo hi sl Q I rx hs pl pu h;obtain⟨a,xs,rfl,ha0,q⟩:=h;have ha:bc X.K H a xs:=bc.of ha0;cases rx;obtain⟨its,r,ht,hz⟩:=I.tuple ha;have hlen:its.toArray.size=xs.length:=by rw[IZ];exact r.length.symm
 refine⟨"tuple",_,PyProof.Rows.slot_tuple_getitem.lookup,ht.typeIs,?_⟩
 by_cases hw:HT.sIx xs.length 0 lo=0/\HT.sIx xs.length xs.length hi=xs.length
 ·refine iZ ht hs pl pu (by rw[hlen];exact hw) ?_
  refine⟨.ref a,H,I,rfl,q a H ?_ (az.refl _)⟩;have e:dE xs lo hi=xs:=by unfold dE;rw[hw.1,hw.2,JQ,Nat.sub_zero,JB]
  rw[e];exact ha0
 ·refine HT.getItem_tuple_cut ht hs pl pu (by rw[hlen];exact hw) ?_ (by rw[hlen];exact hz)
  rw[hlen];refine⟨.ref s.heap.objs.size,_,I.laid (t':=s.toks) (o:=.tup (dE xs lo hi)) (λb ob q=>IS _ q) (Jo _) ?_,rfl,q _ _ ac (ae (I.hok.fresh (Jo _)))⟩;exact⟨Jw (iC xs lo hi) hz,_,(r.drop (HT.sIx xs.length 0 lo)).take (HT.sIx xs.length xs.length hi-HT.sIx xs.length 0 lo),IsTup.new _ _⟩
noncomputable def AK(K:JT):List V->Hp->VK->Prop:=λxs H Q=>∃a ys,xs=[.ref a,.ty "tuple"]/\bc K H a ys/\Q (.bl true) H
theorem fQ:fb X (.builtin "isinstance") (AK X.K):=by
 intro pins s σ H xs us Q I r h;obtain⟨a,ys,rfl,ha,q⟩:=h;obtain⟨u,v,rfl,ru,rv⟩:=r.two;rw[mS rv rfl];obtain⟨its,_,ht,_⟩:=I.tuple ha;cases(show u=Value.ref a from ru);obtain⟨o,h1,h2,_⟩:=ht;exact PySem.W.kia_one PySem.W.kitx_tuple I.kIn ⟨o,h1,h2⟩ (uK _ _) (λz=>nomatch z) λtk=>⟨.bl true,H,I.tok tk,rfl,q⟩
end
section
variable {X:Cx}
end
theorem FQ{a:Addr}{P:Addr->Prop}:(∃p,V.ref a=V.ref p/\P p)=P a:=by simp
theorem FJ{a:Int}{P:Int->Prop}:(∃p,V.int a=V.int p/\P p)=P a:=by simp
theorem Fo{a:Bool}{P:Bool->Prop}:(∃p,V.bl a=V.bl p/\P p)=P a:=by simp
theorem Fv{a:Str}{P:Str->Prop}:(∃p,V.str a=V.str p/\P p)=P a:=by simp
theorem E6{α:Type}{a:Addr}{P:Addr->α->Prop}:(∃p,∃x,V.ref a=V.ref p/\P p x) = ∃x,P a x:=by simp
theorem E9{α:Type}{a:Addr}{P:Addr->α->Prop}:(∃p,∃x,[V.ref a]=[V.ref p]/\P p x) = ∃x,P a x:=by simp
theorem Fs{α:Type}{a:Addr}{v:V}{P:Addr->α->V->Prop}:(∃p,∃x,∃y,V.ref a=V.ref p/\[v]=[y]/\P p x y) = ∃x,P a x v:=by simp
theorem Fu{α β:Type}{a b:Addr}{P:Addr->Addr->α->β->Prop}:(∃p,∃q,∃x,∃y,V.ref a=V.ref p/\V.ref b=V.ref q/\P p q x y) = ∃x,∃y,P a b x y:=by simp
noncomputable def EN(i:Nat):TE:=λσ H Q=>match σ[i]? with
 |some (some v)=>Q v H
 |_=>False
noncomputable def CL(g:Int->Int->V):R2
 | .int i,.int j,H,Q=>Q (g i j) H
 |x,y,H,Q=>yT g x y H Q
noncomputable def ET(C:Int->Int->Prop)(g:Int->Int->V):R2
 | .int i,.int j,H,Q=>C i j/\Q (g i j) H
 |x,y,H,Q=>rI C g x y H Q
noncomputable def w8(K:JT):R2
 | .ref p,.int i,H,Q=>∃xs,aW K H p xs/\∃v,fC xs i=some v/\Q v H
 |x,y,H,Q=>wF K x y H Q
noncomputable def xk(K:JT):R2
 | .ref p,.int i,H,Q=>∃xs,bc K H p xs/\∃v,fC xs i=some v/\Q v H
 |x,y,H,Q=>wq K x y H Q
theorem A4{g:Int->Int->V}{x y:V}{H:Hp}{Q:VK}:CL g x y H Q=yT g x y H Q:=by
 unfold CL;split
 ·simp[yT]
 ·rfl
theorem C8{C:Int->Int->Prop}{g:Int->Int->V}{x y:V}{H:Hp}{Q:VK}:ET C g x y H Q=rI C g x y H Q:=by
 unfold ET;split
 ·simp[rI]
 ·rfl
theorem wZ{K:JT}{x y:V}{H:Hp}{Q:VK}:w8 K x y H Q=wF K x y H Q:=by
 unfold w8;split
 ·simp[wF]
 ·rfl
theorem xl{K:JT}{x y:V}{H:Hp}{Q:VK}:xk K x y H Q=wq K x y H Q:=by
 unfold xk;split
 ·simp[wq]
 ·rfl
theorem Cu{g:Int->Int->V}{i j:Int}{H:Hp}{Q:VK}:CL g (.int i) (.int j) H Q=Q (g i j) H:=rfl
theorem D2{C:Int->Int->Prop}{g:Int->Int->V}{i j:Int}{H:Hp}{Q:VK}:ET C g (.int i) (.int j) H Q=(C i j/\Q (g i j) H):=rfl
theorem zR{K:JT}{p:Addr}{i:Int}{H:Hp}{Q:VK}:w8 K (.ref p) (.int i) H Q = ∃xs,aW K H p xs/\∃v,fC xs i=some v/\Q v H:=rfl
theorem zt{K:JT}{p:Addr}{i:Int}{H:Hp}{Q:VK}:xk K (.ref p) (.int i) H Q = ∃xs,bc K H p xs/\∃v,fC xs i=some v/\Q v H:=rfl
theorem Hh{α β:Type}{f:α->β}{a:α}{l:List α}:List.map f (a::l)=f a::List.map f l:=rfl
theorem Ha{α β:Type}{f:α->β}:List.map f []=[]:=rfl
theorem GM{α:Type}{a:α}{l m:List α}:(a::l)++m=a::(l++m):=rfl
theorem Il{α:Type}{m:List α}:[]++m=m:=rfl
theorem IA{α:Type}{a:α}{l:List α}:(a::l)[0]?=some a:=rfl
theorem Gf{α:Type}{a:α}{l:List α}{n:Nat}:(a::l)[n+1]?=l[n]?:=rfl
theorem FA{α:Type}{a b:α}{l:List α}:(a::l).set 0 b=b::l:=rfl
theorem Hl{α:Type}{a b:α}{l:List α}{n:Nat}:(a::l).set (n+1) b=a::l.set n b:=rfl
section
variable {X:Cx}
theorem am(i:Nat){x:Str}{pos:Pos}(hN:autoParam (X.N[i]?=some x) zz0._auto_1)(hv:autoParam (EZ X.env.scope x) zz5._auto_1)(hd:autoParam ((x==("__debug__":Str))=false) zz1._auto_1)
  (hc:autoParam ((x==("__classdict__":Str))=false) zz1._auto_1):PE X (.Name x pos) (EN i):=λpins s σ H Q I h=>pv i hN hv hd hc pins s σ H Q I (by
 unfold EN at h
 split at h
 ·exact⟨_,‹_›,h⟩
 ·exact h.elim)
theorem aZ.m0{f:Value->Value->Sem Value}{g:Int->Int->V}(h:aZ X f (yT g)):aZ X f (CL g):=λpins s σ H x y v u Q I a b c=>h pins s σ H x y v u Q I a b (A4▸c)
theorem aZ.m1{f:Value->Value->Sem Value}{C:Int->Int->Prop}{g:Int->Int->V}(h:aZ X f (rI C g)):aZ X f (ET C g):=λpins s σ H x y v u Q I a b c=>h pins s σ H x y v u Q I a b (C8▸c)
theorem aV:Da X (w8 X.K):=λe sl pins s σ H x y v u Q I a b c d=>kj e sl pins s σ H x y v u Q I a b (wZ▸c) d
theorem aA:Da X (xk X.K):=λe sl pins s σ H x y v u Q I a b c d=>zX e sl pins s σ H x y v u Q I a b (xl▸c) d
end
end L2
set_option maxHeartbeats 4000000
namespace Q16
open PySem L2 bC QL
local macro_rules|`(tactic|walk_at "a")=>`(tactic|with_reducible assumption)

local macro_rules|`(tactic|omega)=>`(tactic|first|walk_at "a"|with_reducible decide|exact Nat.le_of_lt (by walk_at "a")|exact Nat.le_trans (by walk_at "a") (by with_reducible decide)|exact Nat.lt_of_lt_of_le (by walk_at "a") (by with_reducible decide)|exact Nat.lt_of_le_of_lt (by walk_at "a") (by with_reducible decide)|exact Nat.lt_of_lt_of_le (by walk_at "a") (by walk_at "a")|exact Nat.lt_of_le_of_lt (by walk_at "a") (by walk_at "a")|exact Nat.le_trans (by walk_at "a") (by walk_at "a")|exact Nat.succ_le_of_lt (by walk_at "a")|with_reducible exact Nat.le_trans (Nat.le_of_eq (by walk_at "a")) (by walk_at "a")|with_reducible exact Nat.le_trans (Nat.le_of_eq (Eq.symm (by walk_at "a"))) (by walk_at "a")|with_reducible exact Int.natCast_nonneg _|with_reducible exact Nat.zero_le _|omega +splitDisjunctions)
local macro_rules|`(tactic|walk_at "wp")=>do
 let f(s:String):Lean.MacroM _:=(s.splitOn ",").toArray.mapM λx=>let i:=Lean.mkIdent (x.splitOn "."|>.foldl .mkStr .anonymous);`(Lean.Parser.Tactic.simpLemma|$i:term)
 let g(s:String):Lean.MacroM _:=(s.splitOn ",").toArray.mapM λx=>let i:=Lean.mkIdent (x.splitOn "."|>.foldl .mkStr .anonymous);`(Lean.Parser.Tactic.simpLemma|↓$i:term)
 let c:="vT,zF,Ah,Dg,Aw,v1,D_,zG,w9,Cm,tC,CW,E7,w4,DR,DA,FH,Bf,AI,vA,sO,tu,rM,lJ,Dv,Aa,BD,DP,AK,Ac,Au,Eb,A3,Aj,nO,wj,zA,su,D6,DV,BN,xj,qz,se,vk,A_,Ar,zz,wB,DQ,Dp,rB,zh,nP,DW,DZ,EW,hZ,nN,ml,FP,Ad,BV,rU,Fi,FO,DK,E8,rS,zC,EY,Fg,wM,rR,B_,zx,Af,AS,zJ,D5,D3,DF,wR,AH,qI,ul,L2.start,Ju,List.map_nil,Jc,List.length_nil,List.replicate,List.cons_append,JJ,Nat.reduceAdd,Nat.reduceSub,List.getElem?_cons_zero,Jt,List.set_cons_zero,List.set_cons_succ,cW,Cx.blk,iz,v7,AV,Bh,Cx.wish,Cx.nox,EN,gQ";let d<-f (c++",Hh,Ha,GM,Il,IA,Gf,FA,Hl,Cu,D2,zR,zt");let e<-f (c++",Jz,Option.some.injEq,V.int.injEq,V.str.injEq,V.ref.injEq,V.bl.injEq,List.cons.injEq,and_true,true_and,exists_and_left,exists_eq_left',exists_eq_left,decide_eq_true_eq,Bool.not_eq_true',decide_eq_false_iff_not,BU,Option.join_some,Nat.succ_eq_add_one,Nat.zero_add,exists_const,and_assoc,exists_eq,exists_eq',Int.reducePow,Int.reduceNeg,Int.reduceLT,or_true,true_or,reduceCtorEq,Int.zero_add,Bool.false_eq_true,Bool.not_true,Bool.not_false,A4,C8,wZ,xl,yH,wF,wq,yT,rI");let h<-g "reduceIte,FQ,FJ,Fo,Fv,E6,E9,Fs,Fu";let e:=e++h
 `(tactic|((try dsimp only[$d,*]);(try simp only[$e,*])))
set_option hygiene false in
local macro_rules|`(tactic|walk_at "nc")=>`(tactic|(clear h1;refine ao λN1 h1=>?_;walk_at "wp"))
set_option hygiene false in
local macro_rules|`(tactic|walk_at "n")=>`(tactic|(refine ao λN1 h1=>?_;walk_at "wp"))
set_option hygiene false in
local macro_rules|`(tactic|walk_at "o")=>`(tactic|(refine ao λN2 h2=>?_;walk_at "wp"))
set_option hygiene false in
local macro_rules|`(tactic|walk_at "f")=>`(tactic|refine F.ok sc (λvs H Q E h=>?_) (λcdv A outer s H vs Q E hr h=>?_))
set_option hygiene false in
local macro_rules|`(tactic|walk_at "x")=>`(tactic|refine F.okX sc (λvs H Q E h=>?_) (λcdv A outer s H vs Q E hr h=>?_))
set_option hygiene false in
local macro_rules|`(tactic|walk_at "y")=>`(tactic|refine F.okW sc (λvs H Q E h=>?_) (λcdv A outer s H vs Q E hr h=>?_))
set_option hygiene false in
local macro_rules|`(tactic|walk_at "c")=>`(tactic|exact⟨rfl,rfl,rfl,by decide +kernel,rfl,by decide +kernel,by decide +kernel⟩)
noncomputable def eJ(i:Nat):Stmt:=PySem.Challenge.pw_quiltlaw_k16_no_tree.main.body.getD i (.Pass ⟨0,0,0,0⟩)
noncomputable def B5:Stmt->List Stmt
 | .ClassDef (body:=b) ..=>b
 |_=>[]
noncomputable def jG(i j:Nat):Stmt:=(B5 (eJ i)).getD j (.Pass ⟨0,0,0,0⟩)
section
variable {P:J3}{w:J9}{K:W.Frag}{mg:JZ}{base:Heap}
noncomputable abbrev EK(z:Str)(c:Nat):Bool:=!(Builtin.Str.occurrences z ⟨#[c]⟩ 0 z.length 1).isEmpty
noncomputable abbrev lD:Stmt:=eJ 33
noncomputable def fV(r:JV)(z:Str):Bool:=r.all (EK z)
inductive gq(vs:List V)(H:Hp)(Q:VK)(_E:XK):Prop
 |mk (r:JV) (z:Str) (_:vs=[.str (tx r),.str z]) (_:r.length<=100000) (_:∀H',az H H'->Q (.bl (fV r z)) H')
theorem vy:aE ["text","letters"] ["text","letters"] (ak lD):=by walk_at "c"
theorem GG{r:JV}{i c:Nat}(h:(tx r).cps[i]?=some c):r[i]?=some c:=by
 rw[<- h];show r[i]?=r.toArray[i]?;simp
theorem Fe(r:JV):(tx r).cps.size=r.length:=by show r.toArray.size=_;simp
theorem vj{f:Addr}{fd:J0}(F:cF K "only_of" "only_of" lD f fd)(nb:NB mg):bb P w K mg base bD 1 f fd ["text","letters"] gq:=by
 have sc:=vy;walk_at "f"
 ·obtain⟨r,z,rfl,_⟩:=h;rfl
 ·obtain⟨r,z,rfl,hr',q⟩:=h
  refine⟨_,(ah (aG (au (uB rfl) rfl nb.all zv (aa (bO ["sign"] [1] rfl (bu.of (by kernel_rfl)) (by kernel_rfl) (Du (am 0))
    (λ_ _ _ _=>(aF (i:=0) (by show(["sign","letters"]:List Str).Nodup;decide +kernel) rfl (Or.inl rfl))) (λ_ _ _ _=>bF) (λ_ _ _ _=>(dS xQ (am 0) (am 1) (by with_unfolding_all rfl)))) ad)))),?_⟩
  walk_at "wp";refine zV (x:=tx r) (λi acc σ H'=>H'=H/\acc=((r.take i).map (EK z)).map V.bl/\i<=r.length/\∃x,σ=[x,some (.str z)]) ⟨rfl,rfl,Jp _,_,rfl⟩ ?_ ?_ ?_ ?_
  ·rintro i acc σ H' ⟨_,rfl,hi,_⟩
   rw[IT,IT,JC];exact bp ⋯
  ·rintro i acc σ H' ⟨_,_,h,_⟩
   rw[Fe];exact h
  ·rintro i c acc σ H' hc ⟨rfl,rfl,hi,y,rfl⟩
   have hc':=GG hc;have hi':=(IR.mp hc').1;walk_at "wp";refine⟨?_,hi'⟩;rw[List.take_add_one,hc'];simp
  ·rintro acc σ H' ⟨rfl,rfl,_⟩ l hl
   refine⟨_,aW.of ac,?_⟩;rw[Fe,JB];have e:(r.map (EK z)).all id=fV r z:=by unfold fV;rw[List.all_map];rfl
   rw[e];exact q _ (ae hl)
noncomputable abbrev kW:Stmt:=eJ 34
noncomputable abbrev Dl:Str:="ABCDEFGHIJKLMNOPQRSTUVWXYZ"
noncomputable def cA(r:JV):Bool:=decide (1<=r.length)&&decide (r.length<=4)&&fV r Dl
inductive jF(vs:List V)(H:Hp)(Q:VK)(_E:XK):Prop
 |mk (r:JV) (_:vs=[.str (tx r)]) (_:r.length<=100000) (_:∀H',az H H'->Q (.bl (cA r)) H')
theorem vx:aE ["text"] ["text"] (ak kW):=by walk_at "c"
theorem vb{f:Addr}{fd:J0}{t1 t2:Tok}(F:cF K "is_name" "is_name" kW f fd)(nb:NB mg)(ya3:mg "LONGEST_NAME"=some (.int 4 t1))(ya4:mg "CAPITALS"=some (.str "ABCDEFGHIJKLMNOPQRSTUVWXYZ" t2))(yao:cY P w K mg base bD 1 "only_of" ["text","letters"] gq):bb P w K mg base bD 2 f fd ["text"] jF:=by
 have sc:=vx;walk_at "f"
 ·obtain⟨r,rfl,_⟩:=h;rfl
 ·obtain⟨r,rfl,hr',q⟩:=h
  refine⟨_,(ah (aG (gi (tS (aZ.m0 oN) (aZ.m0 oN) af (au bf rfl nb.len aR (aa (am 0) ad)) (bI (v:=.int 4) rfl ya3 ⟨_,rfl⟩)) (jE (aO yao (hr.mono nofun) rfl ba (aa (am 0) (aa (bI (v:=.str "ABCDEFGHIJKLMNOPQRSTUVWXYZ") rfl ya4 ⟨_,rfl⟩) ad))))))),?_⟩;walk_at "wp";refine⟨by rw[aH];exact ai ⋯,?_⟩;rw[aH];unfold cA at q
  by_cases h1:1<=r.length
  ·rw[if_pos ⋯]
   by_cases h2:r.length<=4
   ·rw[if_pos ⋯]
    refine⟨r,_,rfl,hr',λH' sm=>?_⟩;have z:=q H' sm;rw[decide_eq_true h1,decide_eq_true h2]at z;exact z
   ·rw[if_neg ⋯]
    have z:=q H (λ_ _ e=>e);rw[decide_eq_true h1,decide_eq_false h2]at z;exact z
  ·rw[if_neg ⋯]
   have z:=q H (λ_ _ e=>e);rw[decide_eq_false h1]at z;exact z
noncomputable abbrev df:Stmt:=jG 35 0
inductive cO(K:W.Frag)(CF:Addr)(vs:List V)(H:Hp)(Q:VK)(E:XK):Prop
 |mk (a C dx l:Addr) (n:JV) (c:Int) (ps:bC) (_:vs=[.ref a,.str (tx n),.int c,.ref l]) (_:H a=some (.ins C dx [])) (_:m9 K C) (_:aN K C "name") (_:aN K C "cost") (_:aN K C "part_names") (_:H l=some (.lst (aD ps))) (_:ps.length<=1000) (_:(∀r∈n::ps,r.length<=100000)) (_:((∀r∈n::ps,cA r=true)/\1<=c/\c<=9->∀H',az H H'->Q .non (aC H' a (.ins C dx [("name",.str (tx n)),("cost",.int c),("part_names",.ref l)])))) (_:(¬ ((∀r∈n::ps,cA r=true)/\1<=c/\c<=9)->∀H',az H H'->E (.ref CF) none H'))
theorem rZ:aE ["self","name","cost","part_names","text"] ["self","name","cost","part_names"] (ak df):=by walk_at "c"
theorem rP{f zda:Addr}{fd:J0}(F:cF K "__init__" "Rule.__init__" df f fd)(nb:NB mg)(zra:mg "NoRule"=some (.ref zda))(zua:XR K zda)(yav:cY P w K mg base bD 2 "is_name" ["text"] jF):bb P w K mg base (dz P w) 3 f fd ["self","name","cost","part_names"] (cO K zda):=by
 have sc:=rZ;walk_at "x"
 ·obtain⟨a,C,dx,l,n,c,ps,rfl,_⟩:=h;rfl
 ·obtain⟨a,C,dx,l,n,c,ps,rfl,ha,cl,n1,n2,n3,hl,hpl,hrl,good,bad⟩:=h
  refine⟨_,(ag (bK PassesOwn.leaving rfl (c8 (aq rO (bw (aa (am 1) ad)) (am 3))) (aF (i:=4) sc.nd rfl (Or.inl rfl))
   (ah (bd (gG (gN (aO (CX:=dz P w) yav.lift (hr.mono nofun) rfl ck (aa (am 4) ad)) λ_=>rfl))
   (ah (eZ zua rfl rfl zra (fW λ_ _ _ h=>h) (bg ad)))
   aL)))
   (ag (bd (PW.pt (fU (aB (aZ.m0 lZ) (am 2) af (aI _)) (d9 (aB (aZ.m0 gW) (am 2) af (aI _)))))
   (ah (eZ zua rfl rfl zra (fW λ_ _ _ h=>h) (bg ad)))
   aL)
   (ag (dA (am 0) (am 1) rfl)
   (ag (dA (am 0) (am 2) rfl)
   (ah (dA (am 0) (am 3) rfl)))))),?_⟩
  walk_at "wp";refine⟨ai ⋯,λp hp=>?_⟩;have m1:az H (aC H p (.lst [V.str (tx n)])):=ae hp;have e1:aC H p (.lst [V.str (tx n)]) p=some (.lst [V.str (tx n)]):=ac;generalize aC H p (.lst [V.str (tx n)])=H1 at m1 e1 ⊢;refine⟨_,e1,_,m1 _ _ hl,by rw[av];exact ai (by simp;omega),λp2 hp2=>?_⟩;have e12:[V.str (tx n)]++aD ps=aD (n::ps):=rfl;rw[e12];have m2:az H1 (aC H1 p2 (.lst (aD (n::ps)))):=ae hp2;have e2:aC H1 p2 (.lst (aD (n::ps))) p2=some (.lst (aD (n::ps))):=ac;generalize aC H1 p2 (.lst (aD (n::ps)))=H2 at m2 e2 ⊢;generalize hqs:n::ps=qs at hrl good bad e2 ⊢;have m02:=m1.trans m2;refine⟨⟨_,aW.of e2⟩,lB (xs:=aD qs) (λi σ H'=>az H2 H'/\(∀r∈qs.take i,cA r=true)/\∃x,σ=[some (.ref a),some (.str (tx n)),some (.int c),some (.ref l),x]) ⟨λ_ _ e=>e,by simp,_,rfl⟩ (λi σ H' _ h=>aW.of (h.1 _ _ e2)) ?_ ?_⟩
  ·rintro i v σ H' hv ⟨sm,hok,x,rfl⟩
   have hi:i<qs.length:=by have:=(IR.mp hv).1;rwa [av]at this
   rw[bh hi]at hv;cases hv;walk_at "wp";refine⟨_,rfl,hrl _ (I_ hi),λH3 sm3=>⟨_,rfl,?_⟩⟩
   by_cases hb:cA qs[i]=true
   ·rw[if_neg (by rw[hb];decide)]
    refine⟨sm.trans sm3,λr hr=>?_⟩;rw[List.take_add_one,IQ hi]at hr;rcases Je.mp hr with h | h
    ·exact hok r h
    ·rw[show r=qs[i] by simpa using h];exact hb
   ·rw[if_pos (by simpa using hb)]
    exact⟨ai ⋯,bad (λh=>hb (h.1 _ (I_ hi))) _ ((m02.trans sm).trans sm3)⟩
  ·rintro σ H' ⟨sm,hok,x,rfl⟩
   rw[av,JB]at hok;have smH:=m02.trans sm;walk_at "wp"
   by_cases c1:c<1
   ·rw[if_pos c1]
    exact⟨ai ⋯,bad (λh=>by omega) _ smH⟩
   ·rw[if_neg c1]
    by_cases c9:9<c
    ·rw[if_pos c9]
     exact⟨ai ⋯,bad (λh=>by omega) _ smH⟩
    ·rw[if_neg c9]
     have g:=good ⟨hok,⋯,⋯⟩ H' smH;have l1:(cn "name" (V.str (tx n)) []).length<=1:=cB _ _ _;have l2:(cn "cost" (V.int c) (cn "name" (V.str (tx n)) [])).length<=2:=Jw (cB _ _ _) ⋯;have d1:¬ (("name":Str)="cost"):=by decide +kernel
     have d2:¬ (("name":Str)="part_names"):=by decide +kernel
     have d3:¬ (("cost":Str)="part_names"):=by decide +kernel
     have e:cn "part_names" (V.ref l) (cn "cost" (V.int c) (cn "name" (V.str (tx n)) []))=[(("name":Str),V.str (tx n)),(("cost":Str),V.int c),(("part_names":Str),V.ref l)]:=by
      simp only[cn,if_neg d1,if_neg d2,if_neg d3]
     refine⟨C,dx,[],smH _ _ ha,cl,n1,by simp,C,dx,_,ac,cl,n2,⋯,C,dx,_,ac,cl,n3,⋯,?_⟩;rw[kb,kb,e];exact g
def bR(a:Addr)(H H':Hp):Prop:=∀b o,b≠a->H b=some o->H' b=some o
theorem bR.of{a:Addr}{H H':Hp}(s:az H H'):bR a H H':=λb o _ e=>s b o e
theorem bR.put{a:Addr}{H H':Hp}{o:HO}(s:bR a H H'):bR a H (aC H' a o):=λb u hb e=>by rw[aj hb];exact s b u hb e
theorem bR.then{a:Addr}{H H' H2:Hp}(s:bR a H H')(t:az H' H2):bR a H H2:=λb u hb e=>t b u (s b u hb e)
noncomputable abbrev Ea:Str:="abcdefghijklmnopqrstuvwxyz"
noncomputable def gU(r:JV):Bool:=decide (r.length=1)&&fV r Ea
def fM(n:JV)(ps:bC)(c:Int):Prop:=(∀r∈n::ps,cA r=true)/\1<=c/\c<=9
noncomputable abbrev dk:Stmt:=jG 36 0
inductive gI(K:W.Frag)(CF:Addr)(vs:List V)(H:Hp)(Q:VK)(E:XK):Prop
 |mk (a C dx:Addr) (n sg:JV) (c:Int) (_:vs=[.ref a,.str (tx n),.int c,.str (tx sg)]) (_:H a=some (.ins C dx [])) (_:m9 K C) (_:(aN K C "name"/\aN K C "cost"/\aN K C "part_names"/\aN K C "sign")) (_:n.length<=100000) (_:sg.length<=100000) (_:(fM n [] c/\gU sg=true->∀(l:Addr) (H':Hp),bR a H H'->H l=none->H' l=some (.lst [])->H' a=some (.ins C dx [("name",.str (tx n)),("cost",.int c),("part_names",.ref l),("sign",.str (tx sg))])->Q .non H')) (_:(¬ (fM n [] c/\gU sg=true)->∀H',bR a H H'->E (.ref CF) none H'))
theorem qW:aE ["self","name","cost","sign"] ["self","name","cost","sign"] (ak dk):=by walk_at "c"
theorem qY{f zda:Addr}{fd:J0}{t3:Tok}(F:cF K "__init__" "CellRule.__init__" dk f fd)(nb:NB mg)(yax:mg "SMALLS"=some (.str "abcdefghijklmnopqrstuvwxyz" t3))(zra:mg "NoRule"=some (.ref zda))(zua:XR K zda)
  (yao:cY P w K mg base bD 1 "only_of" ["text","letters"] gq) (zia:yb P w K mg base (dz P w) 3 "Rule" "__init__" ["self","name","cost","part_names"] (cO K zda)):bb P w K mg base (dz P w) 4 f fd ["self","name","cost","sign"] (gI K zda):=by
 have sc:=qW;walk_at "x"
 ·obtain⟨a,C,dx,n,sg,c,rfl,_⟩:=h;rfl
 ·obtain⟨a,C,dx,n,sg,c,rfl,ha,cl,⟨n1,n2,n3,n4⟩,hn,hsg,good,bad⟩:=h
  refine⟨_,(ag (bJ (mQ (E:=E) zia (hr.mono nofun) rfl (c_ λ_ _ _ h=>h) (aa (am 0) (aa (am 1) (aa (am 2) (aa (bw ad) ad))))))
   (ag (bd (PW.pt (fU (aB jb (au bf rfl nb.len aR (aa (am 3) ad)) af (aI _)) (d9 (gG (gN (aO (CX:=dz P w) yao.lift (hr.mono nofun) rfl ck (aa (am 3) (aa (bI (v:=.str "abcdefghijklmnopqrstuvwxyz") rfl yax ⟨_,rfl⟩) ad))) λ_=>rfl)))))
   (ah (eZ zua rfl rfl zra (fW λ_ _ _ h=>h) (bg ad)))
   aL)
   (ah (dA (am 0) (am 3) rfl)))),?_⟩
  walk_at "wp";refine⟨Jp _,λl hl=>?_⟩;have m1:az H (aC H l (.lst [])):=ae hl;have e1:aC H l (.lst []) l=some (.lst []):=ac;generalize aC H l (.lst [])=H1 at m1 e1 ⊢;have hla:l≠a:=λe=>by rw[e,ha]at hl;cases hl
  refine⟨a,C,dx,l,n,c,[],rfl,m1 _ _ ha,cl,n1,n2,n3,e1,by simp,λr hr=>by rw[show r=n by simpa using hr];exact hn,λok H2 sm2=>?_,λnok H2 sm2=>bad (λh=>nok h.1) _ (.of (m1.trans sm2))⟩;have sx:bR a H (aC H2 a (.ins C dx [("name",.str (tx n)),("cost",.int c),("part_names",.ref l)])):=(bR.of (m1.trans sm2)).put;have ea:aC H2 a (.ins C dx [("name",.str (tx n)),("cost",.int c),("part_names",.ref l)]) a=some (.ins C dx [("name",.str (tx n)),("cost",.int c),("part_names",.ref l)]):=ac;have el:aC H2 a (.ins C dx [("name",.str (tx n)),("cost",.int c),("part_names",.ref l)]) l=some (.lst []):=by rw[aj hla];exact sm2 _ _ e1
  generalize aC H2 a (.ins C dx [("name",.str (tx n)),("cost",.int c),("part_names",.ref l)])=H3 at sx ea el ⊢
  try dsimp only
  have sgl:gU sg=true->sg.length=1/\fV sg Ea=true:=λh=>by
   unfold gU at h;rw[Bool.and_eq_true,decide_eq_true_eq]at h;exact h
  refine⟨by rw[aH];exact ai ⋯,?_⟩;rw[aH]
  by_cases h1:(sg.length:Int)=1
  ·rw[if_neg (λh=>h h1)]
   refine⟨sg,_,rfl,hsg,λH4 sm4=>⟨_,rfl,?_⟩⟩
   by_cases hb:fV sg Ea=true
   ·rw[if_neg (by rw[hb];decide)]
    have d1:¬ (("name":Str)="sign"):=by decide +kernel
    have d2:¬ (("cost":Str)="sign"):=by decide +kernel
    have d3:¬ (("part_names":Str)="sign"):=by decide +kernel
    have e:cn "sign" (V.str (tx sg)) [(("name":Str),V.str (tx n)),(("cost":Str),V.int c),(("part_names":Str),V.ref l)]=[(("name":Str),V.str (tx n)),(("cost":Str),V.int c),(("part_names":Str),V.ref l),(("sign":Str),V.str (tx sg))]:=by
     simp only[cn,if_neg d1,if_neg d2,if_neg d3]
    refine⟨C,dx,_,sm4 _ _ ea,cl,n4,by simp,?_⟩;rw[e];exact good ⟨ok,by unfold gU;rw[decide_eq_true ⋯,hb];rfl⟩ l _ (sx.then sm4).put hl (by rw[aj hla];exact sm4 _ _ el) ac
   ·rw[if_pos (by simpa using hb)]
    exact⟨ai ⋯,bad (λh=>hb (sgl h.2).2) _ (sx.then sm4)⟩
  ·rw[if_pos h1]
   exact⟨ai ⋯,bad (λh=>h1 (by have:=(sgl h.2).1;omega)) _ sx⟩
inductive cL(K:W.Frag)(CF:Addr)(vs:List V)(H:Hp)(Q:VK)(E:XK):Prop
 |mk (a C dx:Addr) (n o1 o2:JV) (c:Int) (_:vs=[.ref a,.str (tx n),.int c,.str (tx o1),.str (tx o2)]) (_:H a=some (.ins C dx [])) (_:m9 K C) (_:(aN K C "name"/\aN K C "cost"/\aN K C "part_names"/\aN K C "one"/\aN K C "other")) (_:n.length<=100000) (_:o1.length<=100000) (_:o2.length<=100000) (_:(fM n [o1,o2] c->∀(l:Addr) (H':Hp),bR a H H'->H l=none->H' l=some (.lst (aD [o1,o2]))->H' a=some (.ins C dx [("name",.str (tx n)),("cost",.int c),("part_names",.ref l),("one",.str (tx o1)),("other",.str (tx o2))])->Q .non H')) (_:(¬ fM n [o1,o2] c->∀H',bR a H H'->E (.ref CF) none H'))
theorem tU{n o1 o2:JV}{c:Int}{l:Addr}:cn "other" (V.str (tx o2)) (cn "one" (V.str (tx o1)) [(("name":Str),V.str (tx n)),(("cost":Str),V.int c),(("part_names":Str),V.ref l)])=[(("name":Str),V.str (tx n)),(("cost":Str),V.int c),(("part_names":Str),V.ref l),(("one":Str),V.str (tx o1)),(("other":Str),V.str (tx o2))]:=by
 have d1:¬ (("name":Str)="one"):=by decide +kernel
 have d2:¬ (("cost":Str)="one"):=by decide +kernel
 have d3:¬ (("part_names":Str)="one"):=by decide +kernel
 have d4:¬ (("name":Str)="other"):=by decide +kernel
 have d5:¬ (("cost":Str)="other"):=by decide +kernel
 have d6:¬ (("part_names":Str)="other"):=by decide +kernel
 have d7:¬ (("one":Str)="other"):=by decide +kernel
 simp only[cn,if_neg d1,if_neg d2,if_neg d3,if_neg d4,if_neg d5,if_neg d6,if_neg d7]
noncomputable abbrev cj:Stmt:=jG 37 0
theorem oA:aE ["self","name","cost","one","other"] ["self","name","cost","one","other"] (ak cj):=by walk_at "c"
theorem nK{f zda:Addr}{fd:J0}(F:cF K "__init__" "BesideRule.__init__" cj f fd)(nb:NB mg)
  (zia:yb P w K mg base (dz P w) 3 "Rule" "__init__" ["self","name","cost","part_names"] (cO K zda)):bb P w K mg base (dz P w) 4 f fd ["self","name","cost","one","other"] (cL K zda):=by
 have sc:=oA;walk_at "x"
 ·obtain⟨a,C,dx,n,o1,o2,c,rfl,_⟩:=h;rfl
 ·obtain⟨a,C,dx,n,o1,o2,c,rfl,ha,cl,⟨n1,n2,n3,n4,n5⟩,hn,ho1,ho2,good,bad⟩:=h
  refine⟨_,(ag (bJ (mQ (E:=E) zia (hr.mono nofun) rfl (c_ λ_ _ _ h=>h) (aa (am 0) (aa (am 1) (aa (am 2) (aa (bw (aa (am 3) (aa (am 4) ad))) ad))))))
   (ag (dA (am 0) (am 3) rfl)
   (ah (dA (am 0) (am 4) rfl)))),?_⟩
  walk_at "wp";refine⟨ai ⋯,λl hl=>?_⟩;have m1:az H (aC H l (.lst [V.str (tx o1),V.str (tx o2)])):=ae hl;have e1:aC H l (.lst [V.str (tx o1),V.str (tx o2)]) l=some (.lst (aD [o1,o2])):=ac;generalize aC H l (.lst [V.str (tx o1),V.str (tx o2)])=H1 at m1 e1 ⊢;have hla:l≠a:=λe=>by rw[e,ha]at hl;cases hl
  refine⟨a,C,dx,l,n,c,[o1,o2],rfl,m1 _ _ ha,cl,n1,n2,n3,e1,by simp,λr hr=>?_,λok H2 sm2=>?_,λnok H2 sm2=>bad (λh=>nok h) _ (.of (m1.trans sm2))⟩
  ·have h3:r=n\/r=o1\/r=o2:=by simpa using hr
   rcases h3 with rfl | rfl | rfl
   ·exact hn
   ·exact ho1
   ·exact ho2
  ·have sx:bR a H (aC H2 a (.ins C dx [("name",.str (tx n)),("cost",.int c),("part_names",.ref l)])):=(bR.of (m1.trans sm2)).put
   have ea:aC H2 a (.ins C dx [("name",.str (tx n)),("cost",.int c),("part_names",.ref l)]) a=some (.ins C dx [("name",.str (tx n)),("cost",.int c),("part_names",.ref l)]):=ac;have el:aC H2 a (.ins C dx [("name",.str (tx n)),("cost",.int c),("part_names",.ref l)]) l=some (.lst (aD [o1,o2])):=by rw[aj hla];exact sm2 _ _ e1
   generalize aC H2 a (.ins C dx [("name",.str (tx n)),("cost",.int c),("part_names",.ref l)])=H3 at sx ea el ⊢
   try dsimp only
   refine⟨C,dx,_,ea,cl,n4,by simp,C,dx,_,ac,cl,n5,?_,?_⟩
   ·exact JE (cB _ _ _) (by simp)
   ·rw[kb,tU]
    exact good ok l _ sx.put hl (by rw[aj hla];exact el) ac
noncomputable abbrev cS:Stmt:=jG 38 0
theorem pF:aE ["self","name","cost","one","other"] ["self","name","cost","one","other"] (ak cS):=by walk_at "c"
theorem pk{f zda:Addr}{fd:J0}(F:cF K "__init__" "AboveRule.__init__" cS f fd)(nb:NB mg)
  (zia:yb P w K mg base (dz P w) 3 "Rule" "__init__" ["self","name","cost","part_names"] (cO K zda)):bb P w K mg base (dz P w) 4 f fd ["self","name","cost","one","other"] (cL K zda):=by
 have sc:=pF;walk_at "x"
 ·obtain⟨a,C,dx,n,o1,o2,c,rfl,_⟩:=h;rfl
 ·obtain⟨a,C,dx,n,o1,o2,c,rfl,ha,cl,⟨n1,n2,n3,n4,n5⟩,hn,ho1,ho2,good,bad⟩:=h
  refine⟨_,(ag (bJ (mQ (E:=E) zia (hr.mono nofun) rfl (c_ λ_ _ _ h=>h) (aa (am 0) (aa (am 1) (aa (am 2) (aa (bw (aa (am 3) (aa (am 4) ad))) ad))))))
   (ag (dA (am 0) (am 3) rfl)
   (ah (dA (am 0) (am 4) rfl)))),?_⟩
  walk_at "wp";refine⟨ai ⋯,λl hl=>?_⟩;have m1:az H (aC H l (.lst [V.str (tx o1),V.str (tx o2)])):=ae hl;have e1:aC H l (.lst [V.str (tx o1),V.str (tx o2)]) l=some (.lst (aD [o1,o2])):=ac;generalize aC H l (.lst [V.str (tx o1),V.str (tx o2)])=H1 at m1 e1 ⊢;have hla:l≠a:=λe=>by rw[e,ha]at hl;cases hl
  refine⟨a,C,dx,l,n,c,[o1,o2],rfl,m1 _ _ ha,cl,n1,n2,n3,e1,by simp,λr hr=>?_,λok H2 sm2=>?_,λnok H2 sm2=>bad (λh=>nok h) _ (.of (m1.trans sm2))⟩
  ·have h3:r=n\/r=o1\/r=o2:=by simpa using hr
   rcases h3 with rfl | rfl | rfl
   ·exact hn
   ·exact ho1
   ·exact ho2
  ·have sx:bR a H (aC H2 a (.ins C dx [("name",.str (tx n)),("cost",.int c),("part_names",.ref l)])):=(bR.of (m1.trans sm2)).put
   have ea:aC H2 a (.ins C dx [("name",.str (tx n)),("cost",.int c),("part_names",.ref l)]) a=some (.ins C dx [("name",.str (tx n)),("cost",.int c),("part_names",.ref l)]):=ac;have el:aC H2 a (.ins C dx [("name",.str (tx n)),("cost",.int c),("part_names",.ref l)]) l=some (.lst (aD [o1,o2])):=by rw[aj hla];exact sm2 _ _ e1
   generalize aC H2 a (.ins C dx [("name",.str (tx n)),("cost",.int c),("part_names",.ref l)])=H3 at sx ea el ⊢
   try dsimp only
   refine⟨C,dx,_,ea,cl,n4,by simp,C,dx,_,ac,cl,n5,?_,?_⟩
   ·exact JE (cB _ _ _) (by simp)
   ·rw[kb,tU]
    exact good ok l _ sx.put hl (by rw[aj hla];exact el) ac
inductive gL(K:W.Frag)(CF:Addr)(vs:List V)(H:Hp)(Q:VK)(E:XK):Prop
 |mk (a C dx:Addr) (n o1:JV) (c t:Int) (_:vs=[.ref a,.str (tx n),.int c,.str (tx o1),.int t]) (_:H a=some (.ins C dx [])) (_:m9 K C) (_:(aN K C "name"/\aN K C "cost"/\aN K C "part_names"/\aN K C "part"/\aN K C "turning")) (_:n.length<=100000) (_:o1.length<=100000) (_:(fM n [o1] c/\0<=t/\t<=7->∀(l:Addr) (H':Hp),bR a H H'->H l=none->H' l=some (.lst (aD [o1]))->H' a=some (.ins C dx [("name",.str (tx n)),("cost",.int c),("part_names",.ref l),("part",.str (tx o1)),("turning",.int t)])->Q .non H')) (_:(¬ (fM n [o1] c/\0<=t/\t<=7)->∀H',bR a H H'->E (.ref CF) none H'))
theorem zH{n o1:JV}{c t:Int}{l:Addr}:cn "turning" (V.int t) (cn "part" (V.str (tx o1)) [(("name":Str),V.str (tx n)),(("cost":Str),V.int c),(("part_names":Str),V.ref l)])=[(("name":Str),V.str (tx n)),(("cost":Str),V.int c),(("part_names":Str),V.ref l),(("part":Str),V.str (tx o1)),(("turning":Str),V.int t)]:=by
 have d1:¬ (("name":Str)="part"):=by decide +kernel
 have d2:¬ (("cost":Str)="part"):=by decide +kernel
 have d3:¬ (("part_names":Str)="part"):=by decide +kernel
 have d4:¬ (("name":Str)="turning"):=by decide +kernel
 have d5:¬ (("cost":Str)="turning"):=by decide +kernel
 have d6:¬ (("part_names":Str)="turning"):=by decide +kernel
 have d7:¬ (("part":Str)="turning"):=by decide +kernel
 simp only[cn,if_neg d1,if_neg d2,if_neg d3,if_neg d4,if_neg d5,if_neg d6,if_neg d7]
noncomputable abbrev dc:Stmt:=jG 39 0
theorem tE:aE ["self","name","cost","part","turning"] ["self","name","cost","part","turning"] (ak dc):=by walk_at "c"
theorem rq{f zda:Addr}{fd:J0}(F:cF K "__init__" "TurnRule.__init__" dc f fd)(nb:NB mg)(zra:mg "NoRule"=some (.ref zda))(zua:XR K zda)
  (zia:yb P w K mg base (dz P w) 3 "Rule" "__init__" ["self","name","cost","part_names"] (cO K zda)):bb P w K mg base (dz P w) 4 f fd ["self","name","cost","part","turning"] (gL K zda):=by
 have sc:=tE;walk_at "x"
 ·obtain⟨a,C,dx,n,o1,c,t,rfl,_⟩:=h;rfl
 ·obtain⟨a,C,dx,n,o1,c,t,rfl,ha,cl,⟨n1,n2,n3,n4,n5⟩,hn,ho1,good,bad⟩:=h
  refine⟨_,(ag (bJ (mQ (E:=E) zia (hr.mono nofun) rfl (c_ λ_ _ _ h=>h) (aa (am 0) (aa (am 1) (aa (am 2) (aa (bw (aa (am 3) ad)) ad))))))
   (ag (bd (PW.pt (fU (aB (aZ.m0 lZ) (am 4) af (aI _)) (d9 (aB (aZ.m0 gW) (am 4) af (aI _)))))
   (ah (eZ zua rfl rfl zra (fW λ_ _ _ h=>h) (bg ad)))
   aL)
   (ag (dA (am 0) (am 3) rfl)
   (ah (dA (am 0) (am 4) rfl))))),?_⟩
  walk_at "wp";refine⟨ai ⋯,λl hl=>?_⟩;have m1:az H (aC H l (.lst [V.str (tx o1)])):=ae hl;have e1:aC H l (.lst [V.str (tx o1)]) l=some (.lst (aD [o1])):=ac;generalize aC H l (.lst [V.str (tx o1)])=H1 at m1 e1 ⊢;have hla:l≠a:=λe=>by rw[e,ha]at hl;cases hl
  refine⟨a,C,dx,l,n,c,[o1],rfl,m1 _ _ ha,cl,n1,n2,n3,e1,by simp,λr hr=>?_,λok H2 sm2=>?_,λnok H2 sm2=>bad (λh=>nok h.1) _ (.of (m1.trans sm2))⟩
  ·have h3:r=n\/r=o1:=by simpa using hr
   rcases h3 with rfl | rfl
   ·exact hn
   ·exact ho1
  ·have sx:bR a H (aC H2 a (.ins C dx [("name",.str (tx n)),("cost",.int c),("part_names",.ref l)])):=(bR.of (m1.trans sm2)).put
   have ea:aC H2 a (.ins C dx [("name",.str (tx n)),("cost",.int c),("part_names",.ref l)]) a=some (.ins C dx [("name",.str (tx n)),("cost",.int c),("part_names",.ref l)]):=ac;have el:aC H2 a (.ins C dx [("name",.str (tx n)),("cost",.int c),("part_names",.ref l)]) l=some (.lst (aD [o1])):=by rw[aj hla];exact sm2 _ _ e1
   generalize aC H2 a (.ins C dx [("name",.str (tx n)),("cost",.int c),("part_names",.ref l)])=H3 at sx ea el ⊢
   try dsimp only
   by_cases t0:t<0
   ·rw[if_pos t0]
    exact⟨ai ⋯,bad (λh=>by omega) _ sx⟩
   ·rw[if_neg t0]
    by_cases t7:7<t
    ·rw[if_pos t7]
     exact⟨ai ⋯,bad (λh=>by omega) _ sx⟩
    ·rw[if_neg t7]
     refine⟨C,dx,_,ea,cl,n4,by simp,C,dx,_,ac,cl,n5,?_,?_⟩
     ·exact JE (cB _ _ _) (by simp)
     ·rw[kb,zH]
      exact good ⟨ok,⋯,⋯⟩ l _ sx.put hl (by rw[aj hla];exact el) ac
noncomputable abbrev cQ:Stmt:=jG 35 1
inductive bZ(K:W.Frag)(vs:List V)(H:Hp)(Q:VK)(_E:XK):Prop
 |mk (a C dx l:Addr) (fs:List (Str×V)) (ps:bC) (_:vs=[.ref a]) (_:H a=some (.ins C dx fs)) (_:m9 K C) (_:aN K C "part_names") (_:fs.lookup ("part_names":Str)=some (V.ref l)) (_:H l=some (.lst (aD ps))) (_:bS H ps Q)
theorem pB:aE ["self"] ["self"] (ak cQ):=by walk_at "c"
theorem dQ{f:Addr}{fd:J0}(F:cF K "parts" "Rule.parts" cQ f fd)(nb:NB mg):bb P w K mg base bD 1 f fd ["self"] (bZ K):=by
 have sc:=pB;walk_at "f"
 ·obtain⟨a,C,dx,l,fs,ps,rfl,_⟩:=h;rfl
 ·obtain⟨a,C,dx,l,fs,ps,rfl,ha,cl,n1,lk,hl,q⟩:=h
  refine⟨_,(ah (aG (fZ gw rfl nb.list sH (aa (e8 (am 0) rfl) ad)))),?_⟩;walk_at "wp";refine⟨C,dx,fs,ha,cl,n1,V.ref l,lk,l,rfl,_,.inl (aW.of hl),λl' hl'=>q l' _ hl' ac (ae hl')⟩
noncomputable abbrev C4(n:JV)(c:Int)(l:Addr)(sg:JV):List (Str×V):=[("name",.str (tx n)),("cost",.int c),("part_names",.ref l),("sign",.str (tx sg))]
noncomputable abbrev Dc(n:JV)(c:Int)(l:Addr)(o1 o2:JV):List (Str×V):=[("name",.str (tx n)),("cost",.int c),("part_names",.ref l),("one",.str (tx o1)),("other",.str (tx o2))]
noncomputable abbrev C5(n:JV)(c:Int)(l:Addr)(o1:JV)(t:Int):List (Str×V):=[("name",.str (tx n)),("cost",.int c),("part_names",.ref l),("part",.str (tx o1)),("turning",.int t)]
theorem iR{r:JV}(h:cA r=true):1<=r.length/\r.length<=4:=by
 unfold cA at h;rw[Bool.and_eq_true,Bool.and_eq_true,decide_eq_true_eq,decide_eq_true_eq]at h;exact h.1
theorem iT{r:JV}(h:gU r=true):r.length=1:=by
 unfold gU at h;rw[Bool.and_eq_true,decide_eq_true_eq]at h;exact h.1
theorem ao{a b:TS}{D:gY}{σ:St}{H:Hp}(h:∀N:St->Hp->Prop,(∀σ2 H2,b D σ2 H2->N σ2 H2)->a {D with nx:=N} σ H):vT a b D σ H:=h (b D) λ_ _ z=>z
noncomputable abbrev lA:Stmt:=eJ 63
inductive jr(vs:List V)(H:Hp)(Q:VK)(_E:XK):Prop
 |mk (i:Int) (_:vs=[.int i]) (_:Q (.bl true) H)
theorem wt:aE ["_law_found"] ["_law_found"] (ak lA):=by walk_at "c"
theorem u7{f:Addr}{fd:J0}(F:cF K "_law_whole" "_law_whole" lA f fd)(nb:NB mg):bb P w K mg base bD 1 f fd ["_law_found"] jr:=by
 have sc:=wt;walk_at "f"
 ·obtain⟨i,rfl,_⟩:=h;rfl
 ·obtain⟨i,rfl,q⟩:=h
  refine⟨_,(ah (aG (gi (au cZ rfl nb.isinstance bP (aa (am 0) (aa (kJ (v:=.ty "int") rfl nb.int D0 rfl) ad))) (jE (Do (au cZ rfl nb.isinstance bP (aa (am 0) (aa (kJ (v:=.ty "bool") rfl nb.bool CI rfl) ad)))))))),?_⟩;walk_at "wp";refine⟨_,i9.int i,_,uK K _,?_⟩;walk_at "wp";refine⟨_,i9.int i,_,rE K,?_⟩;exact q
structure RV where
 n:List Nat
 c:Int
 o1:List Nat
 o2:List Nat
 sg:List Nat
 t:Int
noncomputable abbrev Yaa:=List (Nat×RV)
structure RC where
 rr:Addr
 cc:Addr
 cb:Addr
 ca:Addr
 ct:Addr
noncomputable def RC.at(R:RC)(k:Nat):Addr:=match k with | 0=>R.cc | 1=>R.cb | 2=>R.ca | _=>R.ct
noncomputable def vR(k:Nat)(l:Addr)(v:RV):List (Str×V):=match k with | 0=>C4 v.n v.c l v.sg | 1=>Dc v.n v.c l v.o1 v.o2 | 2=>Dc v.n v.c l v.o1 v.o2 | _=>C5 v.n v.c l v.o1 v.t
noncomputable def aS(k:Nat)(v:RV):bC:=match k with | 0=>[] | 1=>[v.o1,v.o2] | 2=>[v.o1,v.o2] | _=>[v.o1]
def Fq(k:Nat)(v:RV):Prop:=match k with | 0=>fM v.n [] v.c/\gU v.sg=true | 1=>fM v.n [v.o1,v.o2] v.c | 2=>fM v.n [v.o1,v.o2] v.c | _=>fM v.n [v.o1] v.c/\0<=v.t/\v.t<=7
structure RV.small(v:RV):Prop where
 n:v.n.length<=1000
 o1:v.o1.length<=1000
 o2:v.o2.length<=1000
 sg:v.sg.length<=1000
structure RV.good(v:RV):Prop where
 n:cA v.n=true
 c1:1<=v.c
 c9:v.c<=9
 o1:cA v.o1=true
 o2:cA v.o2=true
 sg:gU v.sg=true
 t0:0<=v.t
 t7:v.t<=7
theorem RV.good.small{v:RV}(g:v.good):v.small:=⟨by have:=iR g.n;omega,by have:=iR g.o1;omega,by have:=iR g.o2;omega,by have:=iT g.sg;omega⟩
theorem RV.good.ok{v:RV}(g:v.good):∀k,Fq k v
 |0=>⟨⟨λr hr=>by rw[show r=v.n by simpa using hr];exact g.n,g.c1,g.c9⟩,g.sg⟩
 |1=>⟨λr hr=>by rcases(show r=v.n\/r=v.o1\/r=v.o2 by simpa using hr) with rfl | rfl | rfl<;>first | exact g.n | exact g.o1 | exact g.o2,g.c1,g.c9⟩
 |2=>⟨λr hr=>by rcases(show r=v.n\/r=v.o1\/r=v.o2 by simpa using hr) with rfl | rfl | rfl<;>first | exact g.n | exact g.o1 | exact g.o2,g.c1,g.c9⟩
 |_+3=>⟨⟨λr hr=>by rcases(show r=v.n\/r=v.o1 by simpa using hr) with rfl | rfl<;>first | exact g.n | exact g.o1,g.c1,g.c9⟩,g.t0,g.t7⟩
def iu(R:RC)(H:Hp)(k:Nat)(a:Addr)(v:RV):Prop:=∃dx l,H a=some (.ins (R.at k) dx (vR k l v))/\H l=some (.lst (aD (aS k v)))
theorem iu.up{R:RC}{H H':Hp}{k:Nat}{a:Addr}{v:RV}(r:iu R H k a v)(s:az H H'):iu R H' k a v:=by
 obtain⟨dx,l,h1,h2⟩:=r;exact⟨dx,l,s _ _ h1,s _ _ h2⟩
structure oP(K:W.Frag)(R:RC):Prop where
 i0:k7 K R.cc
 i1:k7 K R.cb
 i2:k7 K R.ca
 i3:k7 K R.ct
 a0:aN K R.cc "name"/\aN K R.cc "cost"/\aN K R.cc "part_names"/\aN K R.cc "sign"
 a1:aN K R.cb "name"/\aN K R.cb "cost"/\aN K R.cb "part_names"/\aN K R.cb "one"/\aN K R.cb "other"
 a2:aN K R.ca "name"/\aN K R.ca "cost"/\aN K R.ca "part_names"/\aN K R.ca "one"/\aN K R.ca "other"
 a3:aN K R.ct "name"/\aN K R.ct "cost"/\aN K R.ct "part_names"/\aN K R.ct "part"/\aN K R.ct "turning"
 r0:W.kitOne K (.ref R.cc) (.ref R.rr)=some true
 r1:W.kitOne K (.ref R.cb) (.ref R.rr)=some true
 r2:W.kitOne K (.ref R.ca) (.ref R.rr)=some true
 r3:W.kitOne K (.ref R.ct) (.ref R.rr)=some true
 s0:W.kitOne K (.ref R.cc) (.ref R.cc)=some true
 s1:W.kitOne K (.ref R.cb) (.ref R.cb)=some true
 s2:W.kitOne K (.ref R.ca) (.ref R.ca)=some true
 s3:W.kitOne K (.ref R.ct) (.ref R.ct)=some true
theorem oP.icls{R:RC}(rk:oP K R):∀k,k7 K (R.at k)
 |0=>rk.i0
 |1=>rk.i1
 |2=>rk.i2
 |_+3=>rk.i3
theorem oP.name{R:RC}(rk:oP K R):∀k,aN K (R.at k) "name"/\aN K (R.at k) "cost"/\aN K (R.at k) "part_names"
 |0=>⟨rk.a0.1,rk.a0.2.1,rk.a0.2.2.1⟩
 |1=>⟨rk.a1.1,rk.a1.2.1,rk.a1.2.2.1⟩
 |2=>⟨rk.a2.1,rk.a2.2.1,rk.a2.2.2.1⟩
 |_+3=>⟨rk.a3.1,rk.a3.2.1,rk.a3.2.2.1⟩
theorem iL(l:Addr)(v:RV):∀k,(vR k l v).lookup ("name":Str)=some (V.str (tx v.n))/\(vR k l v).lookup ("cost":Str)=some (V.int v.c)/\(vR k l v).lookup ("part_names":Str)=some (V.ref l)/\(vR k l v).lookup ("parts":Str)=none/\(vR k l v).lookup ("told":Str)=none
 |0=>⟨rfl,rfl,rfl,rfl,rfl⟩
 |1=>⟨rfl,rfl,rfl,rfl,rfl⟩
 |2=>⟨rfl,rfl,rfl,rfl,rfl⟩
 |_+3=>⟨rfl,rfl,rfl,rfl,rfl⟩
theorem iP{H1 H2:Hp}{x dx:Addr}{o o':HO}(hx:H1 x=none)(hd:H1 dx=none)(s:bR x (aC (aC H1 dx o) x o') H2):az H1 H2:=
 λb u e=>s b u (aJ e hx) (by rw[aj (aJ e hx),aj (aJ e hd)];exact e)
theorem C_{CX:ia}{k:Nat}{m:Str}{C0 C1 C2 C3:Addr}{s0 s1 s2 s3:Sp}(h0:∃ps,lM P w K mg base CX k C0 m ps s0)(h1:∃ps,lM P w K mg base CX k C1 m ps s1)(h2:∃ps,lM P w K mg base CX k C2 m ps s2)(h3:∃ps,lM P w K mg base CX k C3 m ps s3) :
  sY P w K mg base CX k m [(C0,s0),(C1,s1),(C2,s2),(C3,s3)]:=⟨λo ho=>by
 simp only[Jg,List.not_mem_nil,or_false]at ho;rcases ho with rfl | rfl | rfl | rfl
 ·exact h0
 ·exact h1
 ·exact h2
 ·exact h3⟩
noncomputable def lg(K:W.Frag)(R:RC):List (Addr×Sp):=[(R.cc,bZ K),(R.cb,bZ K),(R.ca,bZ K),(R.ct,bZ K)]
theorem qk{R:RC}{H:Hp}{k a}{v:RV}{Q:VK}{E:XK}(rk:oP K R)(r:iu R H k a v)(q:bS H (aS k v) Q) :
  ∃o∈lg K R,∃dx fs,H a=some (.ins o.1 dx fs)/\fs.lookup ("parts":Str)=none/\o.2 [.ref a] H Q E:=by
 obtain⟨dx,l,h1,h2⟩:=r;have key:bZ K [.ref a] H Q E:=⟨a,R.at k,dx,l,_,_,rfl,h1,(rk.icls k).cl,(rk.name k).2.2,(iL l v k).2.2.1,h2,q⟩;have mem:(R.at k,bZ K)∈lg K R:=by
  unfold lg
  match k with
  |0=>simp[RC.at]
  |1=>simp[RC.at]
  |2=>simp[RC.at]
  |_+3=>simp[RC.at]
 exact⟨_,mem,dx,_,h1,(iL l v k).2.2.2.1,key⟩
noncomputable abbrev iF:Stmt:=eJ 46
noncomputable abbrev oz:Str:="abcdefghijklmnopqrstuvwxyz"
noncomputable def cU(r:JV):Bool:=decide (1<=r.length)&&decide (r.length<=4)&&fV r oz&&decide ((met (cJ (tx r))).length=r.length)
inductive j6(vs:List V)(H:Hp)(Q:VK)(_E:XK):Prop
 |mk (r:JV) (_:vs=[.str (tx r)]) (_:r.length<=1000) (_:∀H',az H H'->Q (.bl (cU r)) H')
theorem sy:aE ["text"] ["text"] (ak iF):=by walk_at "c"
theorem sX{f:Addr}{fd:J0}{t1 t2:Tok}(F:cF K "are_signs" "are_signs" iF f fd)(nb:NB mg)(yaZ:mg "MOST_SIGNS"=some (.int 4 t1))(yax:mg "SMALLS"=some (.str "abcdefghijklmnopqrstuvwxyz" t2))(yao:cY P w K mg base bD 1 "only_of" ["text","letters"] gq):bb P w K mg base bD 2 f fd ["text"] j6:=by
 have sc:=sy;walk_at "f"
 ·obtain⟨r,rfl,_⟩:=h;rfl
 ·obtain⟨r,rfl,hr',q⟩:=h
  refine⟨_,(ah (aG (gi (tS (aZ.m0 oN) (aZ.m0 oN) af (au bf rfl nb.len aR (aa (am 0) ad)) (bI (v:=.int 4) rfl yaZ ⟨_,rfl⟩)) (gi (aO yao (hr.mono nofun) rfl ba (aa (am 0) (aa (bI (v:=.str "abcdefghijklmnopqrstuvwxyz") rfl yax ⟨_,rfl⟩) ad))) (jE (dS cz (yX rfl (am 0) rfl nb.len rfl nb.set) (au bf rfl nb.len aR (aa (am 0) ad)) (aI _))))))),?_⟩;walk_at "wp";refine⟨by rw[aH];exact ai ⋯,?_⟩;rw[aH];unfold cU at q
  by_cases h1:1<=r.length
  ·rw[if_pos ⋯]
   by_cases h2:r.length<=4
   ·rw[if_pos ⋯]
    refine⟨r,_,rfl,⋯,λH' sm=>⟨_,rfl,?_⟩⟩;have z:=q H' sm;rw[decide_eq_true h1,decide_eq_true h2]at z;cases ho:fV r oz with
    |false=>
     rw[ho]at z;rw[if_neg (by simp)];exact z
    |true=>
     rw[ho]at z;rw[if_pos rfl];refine⟨by rw[Fe];unfold scanBound;omega,by exact ai ⋯,?_⟩;have e:decide (((met (cJ (tx r))).length:Int)=(r.length:Int))=decide ((met (cJ (tx r))).length=r.length):=by
      apply decide_eq_decide.mpr
      constructor<;>intro h<;>omega
     rw[e];exact z
   ·rw[if_neg ⋯]
    have z:=q H (λ_ _ e=>e);rw[decide_eq_true h1,decide_eq_false h2]at z;exact z
  ·rw[if_neg ⋯]
   have z:=q H (λ_ _ e=>e);rw[decide_eq_false h1]at z;exact z
noncomputable def En(y:Str×List Int):List V:=.str y.1::y.2.map V.int
theorem ki{α:Type}{l:List α}{i:Nat}{x:α}(h:l[i]?=some x):l.drop i=x::l.drop (i+1):=by
 obtain⟨hi,e⟩:=IR.mp h;rw[List.drop_eq_getElem_cons hi,e]
def u_(C:Addr)(H:Hp)(y:Str×List Int)(E:XK):Prop:=∀(t d:Addr) (H':Hp),az H H'->H' t=some (.tup (En y))->H' d=some (.xd [("why",.ref t)])->E (.ref C) (some d) H'
theorem u_.made{C:Addr}{H H':Hp}{y:Str×List Int}{E:XK}(b:u_ C H y E)(sm:az H H'){p d:Addr}(hp:H' p=none)(hd:aC H' p (.tup (En y)) d=none):E (.ref C) (some d) (aC (aC H' p (.tup (En y))) d (.xd [("why",.ref p)])):=by
 have hdp:p≠d:=λx=>by rw[<- x,ac]at hd;cases hd
 exact b p d _ ((sm.trans (ae hp)).trans (ae hd)) (by rw[aj hdp,ac]) ac
structure CY(K:W.Frag)(R:RC):Prop where
 kit:∀i j,i<4->j<4->W.kitOne K (.ref (R.at i)) (.ref (R.at j))=some (decide (i=j))
noncomputable abbrev iQ:Stmt:=jG 6 0
theorem AO:aE ["self","why"] ["self","why"] (ak iQ):=by walk_at "c"
theorem zk{f C:Addr}{fd:J0}(F:cF K "__init__" "NoGrammar.__init__" iQ f fd)(xs:W.XSt K C "why"):bb P w K mg base bD 1 f fd ["self","why"] (gE C "why"):=by
 have sc:=AO;walk_at "f"
 ·obtain⟨a,v,rfl,_⟩:=h;rfl
 ·obtain⟨a,v,rfl,ha,q⟩:=h
  refine⟨_,(ah (r9 (pv 0) (pv 1) rfl)),?_⟩;walk_at "wp";exact⟨C,ha,xs,λd hd=>q d hd⟩
noncomputable abbrev EX(z x:Str):Bool:=!(Builtin.Str.occurrences z x 0 z.length 1).isEmpty
noncomputable def fz(sg:Str):Yaa->Nat->Option Nat
 | [],_=>none
 |r::rs,j=>if r.1=0/\EX sg (tx r.2.sg)=false then some j else fz sg rs (j+1)
noncomputable def gJ(sg st:JV)(rs:Yaa):Option (Str×List Int):=
 if cU sg=false then some ("signs",[]) else if cA st=false then some ("start",[]) else if 24<rs.length then some ("rules",[(rs.length:Int)]) else
  match fz (tx sg) rs 0 with
  |some k=>some ("sign",[(k:Int)])
  |none=>none
noncomputable abbrev d_:Stmt:=eJ 45
def cP(R:RC)(H:Hp)(as:JY)(rs:Yaa):Prop:=as.length=rs.length/\∀(i:Nat) a r,as[i]?=some a->rs[i]?=some r->iu R H r.1 a r.2
theorem cP.up{R:RC}{H H':Hp}{as:JY}{rs:Yaa}(h:cP R H as rs)(s:az H H'):cP R H' as rs:=⟨h.1,λi a r e1 e2=>(h.2 i a r e1 e2).up s⟩
inductive fS(R:RC)(C:Addr)(vs:List V)(H:Hp)(Q:VK)(E:XK):Prop
 |mk (sg st:JV) (a:Addr) (as:JY) (rs:Yaa) (_:vs=[.str (tx sg),.str (tx st),.ref a]) (_:sg.length<=1000) (_:st.length<=1000) (_:H a=some (.lst (as.map V.ref))) (_:cP R H as rs) (_:(∀r∈rs,r.1<4)) (_:rs.length<=100) (_:(gJ sg st rs=none->∀H',az H H'->Q .non H')) (_:∀y,gJ sg st rs=some y->u_ C H y E)
theorem lw:aE ["signs","start","rules","k","rule"] ["signs","start","rules"] (ak d_):=by walk_at "c"
theorem lV{R:RC}{f zaa:Addr}{fd:J0}{t1:Tok}(F:cF K "check_made_of" "check_made_of" d_ f fd)(nb:NB mg)(rk:oP K R)(rk4:CY K R)(yaM:mg "MOST_RULES"=some (.int 24 t1))(zfb:mg "CellRule"=some (.ref R.cc))
  (zka:mg "NoGrammar"=some (.ref zaa)) (zna:XI P w K mg base 1 zaa "why") (yaY:cY P w K mg base bD 2 "are_signs" ["text"] j6) (yav:cY P w K mg base bD 2 "is_name" ["text"] jF):bb P w K mg base (dz P w) 3 f fd ["signs","start","rules"] (fS R zaa):=by
 have sc:=lw;walk_at "x"
 ·obtain⟨sg,st,a,as,rs,rfl,_⟩:=h;rfl
 ·obtain⟨sg,st,a,as,rs,rfl,hsg,hst,ha,hrs,hk4,hn,good,bad⟩:=h
  refine⟨_,(ag (bd (gG (gN (aO (CX:=dz P w) yaY.lift (hr.mono nofun) rfl ck (aa (am 0) ad)) λ_=>rfl))
   (ah (dn zna (hr.mono nofun) rfl rfl zka (dj λ_ _ _ h=>h) (aa (aP (bg ad)) ad)))
   aL)
   (ag (bd (gG (gN (aO (CX:=dz P w) yav.lift (hr.mono nofun) rfl ck (aa (am 1) ad)) λ_=>rfl))
   (ah (dn zna (hr.mono nofun) rfl rfl zka (dj λ_ _ _ h=>h) (aa (aP (bg ad)) ad)))
   aL)
   (ag (bd (aB (aZ.m0 gW) (au aQ rfl nb.len aR (aa (am 2) ad)) (bI (v:=.int 24) rfl yaM ⟨_,rfl⟩) (aI _))
   (ah (dn zna (hr.mono nofun) rfl rfl zka (dj λ_ _ _ h=>h) (aa (aP (bg (aa (au aQ rfl nb.len aR (aa (am 2) ad)) ad))) ad)))
   aL)
   (ah (bK PassesOwn.leaving rfl (mV rfl nb.enumerate (aa (am 2) ad)) (eF (n:=2) rfl (a_ (aF (i:=3) sc.nd rfl (Or.inl rfl)) (a_ (aF (i:=4) sc.nd rfl (Or.inl rfl)) cM)))
   (ah (bd (PW.pt (jJ (gN (au cZ rfl nb.isinstance bP (aa (am 4) (aa (bI (v:=.ref _) rfl zfb rfl) ad))) λ_=>rfl) (kO (aB rL (e8 (am 4) rfl) (am 0) (by with_unfolding_all rfl)))))
   (ah (dn zna (hr.mono nofun) rfl rfl zka (dj λ_ _ _ h=>h) (aa (aP (bg (aa (am 3) ad))) ad)))
   aL))))))),?_⟩
  have tupw:∀(H':Hp) (y:Str×List Int),az H H'->gJ sg st rs=some y->∀p,H' p=none->1<=sizeLine/\∀d,aC H' p (.tup (En y)) d=none->E (.ref zaa) (some d) (aC (aC H' p (.tup (En y))) d (.xd [("why",.ref p)])):=
   λH' y sm hy p hp=>⟨ai ⋯,λd hd=>(bad y hy).made sm hp hd⟩
  walk_at "n";refine⟨sg,rfl,hsg,λH1 sm1=>⟨_,rfl,?_⟩⟩;unfold gJ at good tupw;cases e1:cU sg with
  |false=>
   rw[if_pos rfl];rw[if_pos e1]at tupw;exact⟨ai ⋯,tupw H1 _ sm1 rfl⟩
  |true=>
  rw[if_neg nofun];rw[if_neg (by rw[e1];decide)]at good tupw;refine h1 _ _ ?_;clear h1;walk_at "o";refine⟨st,rfl,⋯,λH2 sm2=>⟨_,rfl,?_⟩⟩;have sm12:=sm1.trans sm2;cases e2:cA st with
  |false=>
   rw[if_pos rfl];rw[if_pos e2]at tupw;exact⟨ai ⋯,tupw H2 _ sm12 rfl⟩
  |true=>
  rw[if_neg nofun];rw[if_neg (by rw[e2];decide)]at good tupw;refine h2 _ _ ?_;clear h2;have ha2:=sm12 _ _ ha;have hal:(as.map V.ref).length=rs.length:=by rw[IT];exact hrs.1
  refine ao λN3 h3=>?_;walk_at "wp";refine⟨_,aW.of ha2,?_⟩;rw[hal]
  by_cases h24:24<rs.length
  ·rw[if_pos ⋯]
   rw[if_pos h24]at tupw;refine⟨_,aW.of ha2,ai ⋯,?_⟩;rw[hal];exact tupw H2 _ sm12 rfl
  rw[if_neg ⋯];rw[if_neg h24]at good tupw;refine h3 _ _ ?_;clear h3;walk_at "wp";refine⟨_,aW.of ha2,?_⟩;refine iM (xs:=as.map V.ref) (λi σ H'=>az H H'/\fz (tx sg) (rs.drop i) i=fz (tx sg) rs 0/\∃x y,σ=[some (.str (tx sg)),some (.str (tx st)),some (.ref a),x,y]) ⟨sm12,rfl,_,_,rfl⟩ ?_ ?_ ?_
  ·rintro i σ H' _ ⟨sm,_⟩
   exact aW.of (sm _ _ ha)
  ·rintro i x σ H3 T hx ⟨sm,hb,x1,y1,rfl⟩ hT
   have hlt:i<rs.length:=by have:=(IR.mp hx).1;rw[hal]at this;exact this
   obtain⟨ra,hra,rfl⟩:∃ra,as[i]?=some ra/\V.ref ra=x:=by
    rw[IV]at hx;cases e:as[i]? with
    |none=>rw[e]at hx;cases hx
    |some ra=>rw[e]at hx;exact⟨ra,rfl,Option.some.inj hx⟩
   have hrr:rs[i]?=some rs[i]:=IQ hlt;have hr4:=hk4 _ (I_ hlt);generalize rs[i]=r at hrr hr4;rw[ki hrr]at hb;have smT:az H (aC H3 T (.tup [V.int (i:Int),V.ref ra])):=sm.trans (ae hT);have eT:aC H3 T (.tup [V.int (i:Int),V.ref ra]) T=some (.tup [V.int (i:Int),V.ref ra]):=ac;generalize aC H3 T (.tup [V.int (i:Int),V.ref ra])=H4 at smT eT ⊢;have rr:=(hrs.2 i ra r hra hrr).up smT;obtain⟨dx,pl,hra4,_⟩:=id rr;walk_at "wp";refine⟨_,bc.of eT,rfl,_,_,rfl,_,_,rfl,rfl,?_⟩;refine⟨_,(rk.icls r.1).ty hra4,_,rk4.kit r.1 0 hr4 nofun,?_⟩;have hb':(if r.1=0/\EX (tx sg) (tx r.2.sg)=false then some i else fz (tx sg) (rs.drop (i+1)) (i+1))=fz (tx sg) rs 0:=hb
   by_cases e0:r.1=0
   ·rw[if_pos (by simp[e0])]
    obtain⟨r0,v⟩:=r;have e0':r0=0:=e0;subst e0';refine⟨ra,rfl,_,_,_,hra4,rk.i0.cl,rk.a0.2.2.2,_,rfl,_,rfl,?_⟩;cases hin:EX (tx sg) (tx v.sg) with
    |false=>
     rw[if_pos hin];rw[if_pos ⟨rfl,hin⟩]at hb';rw[<- hb']at tupw;exact⟨ai ⋯,tupw H4 _ smT rfl⟩
    |true=>
     rw[if_neg (by rw[show(!(Builtin.Str.occurrences (tx sg) (tx v.sg) 0 (tx sg).length 1).isEmpty)=true from hin];decide)];rw[if_neg (λz=>by rw[hin]at z;exact absurd z.2 nofun)]at hb';exact⟨smT,hb'⟩
   ·rw[if_neg (by simp[e0])]
    rw[if_neg (λz=>e0 z.1)]at hb';exact⟨smT,hb'⟩
  ·rintro σ H' ⟨sm,hb,x,y,rfl⟩
   walk_at "wp";rw[hal,List.drop_of_length_le (Jo _)]at hb;refine good ?_ H' sm;rw[<- hb];rfl
noncomputable def gO(m:List (Str×List Nat))(z:Str)(i:Nat):List (Str×List Nat):=m.map λq=>if q.1=z then(q.1,q.2++[i]) else q
structure sh(H0:Hp)(p:Addr)(t:NT)(H:Hp):Prop where
 same:az H0 H
 at_:cH H p t
 fresh:∀x∈t,H0 x.2.1=none
 nodup:((i8 t).map (·.1)).Nodup
theorem nR(t:NT):(i8 t).length=t.length:=by unfold i8;rw[IT]
theorem pL(m:List (Str×List Nat))(z:Str):(bN m z).length<=m.length+1:=by
 unfold bN;split
 ·omega
 ·rw[Jn];simp
theorem gF(m:List (Str×List Nat))(z:Str)(i:Nat):(gO m z i).map (·.1)=m.map (·.1):=by
 unfold gO;rw[Jf]
 apply List.map_congr_left;intro q _;simp only[Function.comp]
 split<;>rfl
theorem yA{m:List (Str×List Nat)}{j i:Nat}{q:Str×List Nat}(nd:(m.map (·.1)).Nodup)(hj:m[j]?=some q):m.set j (q.1,q.2++[i])=gO m q.1 i:=by
 unfold gO;apply List.ext_getElem?;intro k;rw[IV,List.getElem?_set];have hlt:j<m.length:=(IR.mp hj).1
 by_cases e:j=k
 ·subst e
  rw[if_pos rfl,if_pos hlt,hj];simp
 ·rw[if_neg e]
  cases hk:m[k]? with
  |none=>rfl
  |some y=>
   have hne:y.1≠q.1:=by
    intro h;have h1:(m.map (·.1))[j]?=some q.1:=by rw[IV,hj];rfl
    have h2:(m.map (·.1))[k]?=some q.1:=by rw[IV,hk];simp[h]
    exact e ((List.getElem?_inj (IR.mp h1).1 nd).mp (h1.trans h2.symm))
   simp[hne]
theorem sh.free{H0 H:Hp}{p:Addr}{t:NT}(N:sh H0 p t H){l:Addr}(h:H l=none):H0 l=none:=N.same.free h
theorem l8{te:TE}{σ:St}{H0 H:Hp}{p:Addr}{t:NT}{z:Str}{i:Nat}{Q:VK}(hp:H0 p=none)(hv:σ[i]?=some (some (.ref p)))(hte:∀R:VK,R (.str z) H->te σ H R)(N:sh H0 p t H)(hn:t.length<sizeLine)
  (h:∀(H':Hp) (t':NT) (j:Nat) (x:Str×Addr×List Nat),sh H0 p t' H'->t'[j]?=some x->x.1=z->i8 t'=bN (i8 t) z->t'.length<=t.length+1->(∀a o,a≠p->H a=some o->H' a=some o)->Q (.ref x.2.1) H'):uS (yH i) te (Ad nN) σ H Q:=by
 refine⟨.ref p,hv,p,rfl,.inl ⟨_,.inl N.at_.dict⟩,hte _ ⟨Jp _,λl hl=>?_⟩⟩;have hl0:=N.free hl;refine N.at_.setdef hl hn λH' t' j x N' hj hx hm hy hk=>h H' t' j x ⟨λb o e=>hk b o (λq=>by rw[q,hp]at e;exact nomatch e) (N.same b o e),N',λy hyy=>?_,?_⟩ hj hx hm ?_ hk
 ·rcases hy y hyy with q | q
  ·exact N.fresh y q
  ·rw[q];exact hl0
 ·rw[hm];exact kg N.nodup
 ·have:=pL (i8 t) z
  rw[<- hm,nR,nR]at this;exact this
theorem sh.put{H0 H:Hp}{p:Addr}{t:NT}{j k:Nat}{x:Str×Addr×List Nat}(N:sh H0 p t H)(hj:t[j]?=some x) :
  sh H0 p (t.set j (x.1,x.2.1,x.2.2++[k])) (aC H x.2.1 (.lst (CU (x.2.2++[k]))))/\i8 (t.set j (x.1,x.2.1,x.2.2++[k]))=gO (i8 t) x.1 k:=by
 have hm:=IW hj;have e:i8 (t.set j (x.1,x.2.1,x.2.2++[k]))=gO (i8 t) x.1 k:=by
  rw[Cq];exact yA (q:=(x.1,x.2.2)) N.nodup (by unfold i8;rw[IV,hj];rfl)
 refine⟨⟨bL N.same (N.fresh x hm),N.at_.put hj,λy hy=>?_,?_⟩,e⟩
 ·rcases List.mem_or_eq_of_mem_set hy with q | q
  ·exact N.fresh y q
  ·rw[q];exact N.fresh x hm
 ·rw[e,gF];exact N.nodup
noncomputable abbrev dB:Stmt:=eJ 47
theorem jB:aE ["start","rules","numbers","k","rule","part"] ["start","rules"] (ak dB):=by walk_at "c"
noncomputable def dR(m:List (Str×List Nat))(i:Nat)(r:Nat×RV):List (Str×List Nat):=((aS r.1 r.2).map tx).foldl bN (gO (bN m (tx r.2.n)) (tx r.2.n) i)
noncomputable def e7:Nat->Yaa->List (Str×List Nat)->List (Str×List Nat)
 |_,[],m=>m
 |i,r::rs,m=>e7 (i+1) rs (dR m i r)
theorem jq{m:List (Str×List Nat)}{z:Str}{n:Nat}(h:∀q∈m,q.2.length<=n):∀q∈bN m z,q.2.length<=n:=by
 unfold bN;split
 ·exact h
 ·intro q hq
  rcases Je.mp hq with z1 | z1
  ·exact h q z1
  ·rw[IU.mp z1];exact Jp _
theorem mf:∀{zs:J4} {m:List (Str×List Nat)} {n:Nat},(∀q∈m,q.2.length<=n)->∀q∈zs.foldl bN m,q.2.length<=n
 | [],_,_,h=>h
 |z::zs,_,_,h=>mf (zs:=zs) (jq h)
theorem tQ{m:List (Str×List Nat)}{i n:Nat}{r:Nat×RV}(h:∀q∈m,q.2.length<=n):∀q∈dR m i r,q.2.length<=n+1:=by
 unfold dR;refine mf λq hq=>?_;unfold gO at hq;obtain⟨q0,hq0,rfl⟩:=JG.mp hq;have:=jq h q0 hq0
 split
 ·rw[Jn];simp;exact this
 ·omega
theorem nB:∀{rs:Yaa} {i n:Nat} {m:List (Str×List Nat)},(∀q∈m,q.2.length<=n)->∀q∈e7 i rs m,q.2.length<=n+rs.length
 | [],_,_,_,h=>h
 |r::rs,i,n,m,h=>λq hq=>by
  have:=nB (rs:=rs) (i:=i+1) (tQ (i:=i) (r:=r) h) q hq;rw[Jc];omega
theorem fB:∀{rs:Yaa} {i:Nat} {m:List (Str×List Nat)} {r:Nat×RV},e7 i (rs++[r]) m=dR (e7 i rs m) (i+rs.length) r
 | [],i,m,r=>rfl
 |r0::rs,i,m,r=>by
  show e7 (i+1) (rs++[r]) (dR m i r0)=dR (e7 (i+1) rs (dR m i r0)) (i+(rs.length+1)) r;rw[fB,show i+1+rs.length=i+(rs.length+1) by omega]
theorem uX(k:Nat)(v:RV):(aS k v).length<=2:=by
 match k with
 |0=>simp[aS]
 |1=>simp[aS]
 |2=>simp[aS]
 |_+3=>simp[aS]
noncomputable def b6(z:Str)(rs:Yaa):List (Str×List Nat):=e7 0 rs [(z,[])]
inductive fg(K:W.Frag)(R:RC)(vs:List V)(H:Hp)(Q:VK)(_E:XK):Prop
 |mk (z:Str) (a:Addr) (as:JY) (rs:Yaa) (_:vs=[.str z,.ref a]) (_:H a=some (.lst (as.map V.ref))) (_:cP R H as rs) (_:rs.length<=100) (_:∀p H' t,H p=none->cH H' p t->i8 t=b6 z rs->(∀x∈t,H x.2.1=none)->az H H'->Q (.ref p) H')
theorem ju{R:RC}{f:Addr}{fd:J0}(F:cF K "numbers_by_name" "numbers_by_name" dB f fd)(nb:NB mg)(rk:oP K R)(yas:sY P w K mg base bD 1 "parts" (lg K R)):bb P w K mg base bD 2 f fd ["start","rules"] (fg K R):=by
 have sc:=jB;walk_at "f"
 ·obtain⟨r,a,_,_,rfl,_⟩:=h;rfl
 ·obtain⟨z,a,as,rs,rfl,ha,hrs,hn,q⟩:=h
  refine⟨_,(ag (aM (i:=2) sc.nd rfl (Or.inl rfl) (BR (zg (pv 0) (bw ad) B3) rfl rfl (by simp) nofun))
   (ag (bK PassesOwn.never rfl (mV rfl nb.enumerate (aa (pv 1) ad)) (eF (n:=2) rfl (a_ (aF (i:=3) sc.nd rfl (Or.inl rfl)) (a_ (aF (i:=4) sc.nd rfl (Or.inl rfl)) cM)))
   (ag (bJ (eO PySem.F.plainAttrs_list PySem.F.slot_list_append PySem.F.type_list_append cg (ou (pv 2) (e8 (pv 4) rfl) (bw ad) ⟨rfl,rfl,rfl,rfl⟩) (aa (pv 3) ad)))
   (ah (bK PassesOwn.never rfl (c8 (uw yas (hr.mono nofun) ba (pv 4))) (aF (i:=5) sc.nd rfl (Or.inl rfl))
   (ah (bJ (ou (pv 2) (pv 5) (bw ad) ⟨rfl,rfl,rfl,rfl⟩)))))))
   (ah (aG (pv 2))))),?_⟩
  walk_at "wp";intro p hp;refine⟨Jp _,λl hl=>?_⟩;have hlp:l≠p:=λe=>by rw[e,ac]at hl;exact nomatch hl
  have hl0:H l=none:=by rw[aj hlp]at hl;exact hl
  have hap:a≠p:=λe=>by rw[e,hp]at ha;exact nomatch ha
  have hal:a≠l:=λe=>by rw[e,hl0]at ha;exact nomatch ha
  refine⟨by rw[aj (Ne.symm hlp),ac],[(.inr z,.ref l)],rfl,by simp,as.map V.ref,aW.of (by rw[aj hap,aj hal,aj hap];exact ha),?_⟩;refine iM (xs:=as.map V.ref) (λi σ H'=>az H H'/\∃t,cH H' p t/\(∀x∈t,H x.2.1=none)/\((i8 t).map (·.1)).Nodup/\i8 t=e7 0 (rs.take i) [(z,[])]/\t.length<=1+3*i/\∃x y u,σ=[some (.str z),some (.ref a),some (.ref p),x,y,u]) ?_ ?_ ?_ ?_
  ·refine⟨λb o e=>?_,[(z,l,[])],⟨by rw[ac];rfl,λx hx=>?_,by simp⟩,λx hx=>?_,by simp[i8],rfl,by simp,_,_,_,rfl⟩
   ·have h1:b≠p:=λq=>by rw[q,hp]at e;exact nomatch e
    have h2:b≠l:=λq=>by rw[q,hl0]at e;exact nomatch e
    rw[aj h1,aj h2,aj h1];exact e
   ·rw[IU.mp hx,aj hlp,ac];rfl
   ·rw[IU.mp hx];exact hl0
  ·rintro i σ H' _ ⟨sm,_⟩
   exact aW.of (sm _ _ ha)
  ·rintro i x σ H1 T hx ⟨sm,t,N,fr,nd,em,hlen,x1,y1,u1,rfl⟩ hT
   have hlt:i<rs.length:=by have:=(IR.mp hx).1;rw[IT,hrs.1]at this;exact this
   obtain⟨ra,hra,rfl⟩:∃ra,as[i]?=some ra/\V.ref ra=x:=by
    rw[IV]at hx;cases e:as[i]? with
    |none=>rw[e]at hx;cases hx
    |some ra=>rw[e]at hx;exact⟨ra,rfl,Option.some.inj hx⟩
   have hrr:rs[i]?=some rs[i]:=IQ hlt;generalize rs[i]=r at hrr;have rr:=hrs.2 i ra r hra hrr;have smT:az H (aC H1 T (.tup [V.int (i:Int),V.ref ra])):=sm.trans (ae hT);have gT:∀b o,H1 b=some o->aC H1 T (.tup [V.int (i:Int),V.ref ra]) b=some o:=ae hT;have eT:bc K (aC H1 T (.tup [V.int (i:Int),V.ref ra])) T [V.int (i:Int),V.ref ra]:=bc.of ac;have N2:=N.grow gT;generalize aC H1 T (.tup [V.int (i:Int),V.ref ra])=H2 at smT gT eT N2 ⊢;clear gT N hT sm H1;simp only[zG,w9,gQ,Cm];refine⟨_,_,rfl,eT,rfl,_,_,rfl,_,_,rfl,rfl,?_⟩;refine ao λN1 h1=>?_;have rr2:=rr.up smT;have NI:sh H p t H2:=⟨smT,N2,fr,nd⟩;have hz:sizeLine>1000:=bp nofun;obtain⟨dx,pl,hra2,_⟩:=id rr2;walk_at "wp";refine l8 (z:=tx r.2.n) hp rfl (λS hS=>⟨_,rfl,ra,_,dx,_,_,rfl,hra2,(rk.icls r.1).cl,(rk.name r.1).1,(iL pl r.2 r.1).1,hS⟩) NI ⋯ λH3 t3 j x N3 hj hx hm hl3 hk=>?_;have hxl:=N3.at_.list x (IW hj);refine⟨.inl ⟨rfl,_,aW.of hxl⟩,_,rfl,_,hxl,?_,h1 _ _ ?_⟩
   ·have h2:(x.1,x.2.2)∈bN (i8 t) (tx r.2.n):=by rw[<- hm];exact JG.mpr ⟨x,IW hj,rfl⟩
    have h3:=jq (nB (rs:=rs.take i) (i:=0) (n:=0) (m:=[(z,[])]) (λq hq=>by rw[IU.mp hq];exact Jp _)) (z:=tx r.2.n) (x.1,x.2.2) (by rw[<- em];exact h2);rw[JC]at h3;unfold CU;rw[IT];have h4:x.2.2.length<=100:=by simp at h3;omega
    omega
   clear h1;obtain⟨N4,hm4⟩:=N3.put (k:=i) hj;have hl4:(t3.set j (x.1,x.2.1,x.2.2++[i])).length<=t.length+1:=by rw[JK];exact hl3
   have hm4:i8 (t3.set j (x.1,x.2.1,x.2.2++[i]))=gO (bN (i8 t) (tx r.2.n)) (tx r.2.n) i:=by rw[hm4,hm,hx]
   have eI:CU (x.2.2++[i])=CU x.2.2++[V.int (i:Int)]:=by unfold CU;rw[Jd];rfl
   rw[eI]at N4;generalize t3.set j (x.1,x.2.1,x.2.2++[i])=t4 at N4 hm4 hl4;generalize aC H3 x.2.1 (.lst (CU x.2.2++[V.int (i:Int)]))=H4 at N4 ⊢;clear hk hxl hj N3 hm hl3 hx NI N2 hra2 rr2;have rr4:=rr.up N4.same;have hpk:=uX r.1 r.2;walk_at "wp";refine qk rk rr4 λlp H5 hlp hH5 sm5=>⟨lp,rfl,⟨_,aW.of hH5⟩,?_⟩;have hpp:lp≠p:=λe=>by rw[e,N4.at_.dict]at hlp;exact nomatch hlp
   refine lB (xs:=aD (aS r.1 r.2)) (λn σ H'=>n<=(aS r.1 r.2).length/\∃t',sh H p t' H'/\i8 t'=(((aS r.1 r.2).take n).map tx).foldl bN (gO (bN (i8 t) (tx r.2.n)) (tx r.2.n) i)/\t'.length<=t.length+1+n/\H' lp=some (.lst (aD (aS r.1 r.2)))/\∃u,σ=[some (.str z),some (.ref a),some (.ref p),some (.int (i:Int)),some (.ref ra),u])
    ⟨Jp _,t4,⟨N4.same.trans sm5,N4.at_.grow sm5,N4.fresh,N4.nodup⟩,hm4,hl4,hH5,_,rfl⟩ ?_ ?_ ?_
   ·rintro n σ H' _ ⟨_,t',_,_,_,hH',_⟩
    exact aW.of hH'
   ·rintro n v σ H' hv ⟨hn1,t',N',hm',hl',hH',u,rfl⟩
    have hnl:n<(aS r.1 r.2).length:=by have:=(IR.mp hv).1;rwa [av]at this
    rw[bh hnl]at hv;cases hv;walk_at "wp";refine l8 (z:=tx (aS r.1 r.2)[n]) hp rfl (λS hS=>⟨_,rfl,hS⟩) N' ⋯ λH6 t6 j x N6 hj hx hm6 hl6 hk=>?_;refine⟨hnl,t6,N6,?_,⋯,hk _ _ hpp hH'⟩;rw[hm6,hm',List.take_add_one,IQ hnl,Jd,List.foldl_append]
    rfl
   ·rintro σ H' ⟨_,t',N',hm',hl',hH',u,rfl⟩
    rw[av,JB]at hm';refine⟨N'.same,t',N'.at_,N'.fresh,N'.nodup,?_,?_,_,_,_,rfl⟩
    ·rw[hm',List.take_add_one,hrr,em]
     show _=e7 0 (rs.take i++[r]) _;rw[fB,JC,JO (Nat.le_of_lt hlt),Nat.zero_add]
     rfl
    ·rw[av]at hl';omega
  ·rintro σ H' ⟨sm,t,N,fr,_,em,_,x,y,u,rfl⟩
   walk_at "wp";refine q p H' t hp N ?_ fr sm;rw[em,IT,hrs.1,JB];rfl
noncomputable def iB(sg st:JV)(rs:Yaa):Option (Str×List Int):=
 match gJ sg st rs with
 |some y=>some y
 |none=>if 8<(b6 (tx st) rs).length then some ("names",[((b6 (tx st) rs).length:Int)]) else none
noncomputable def fL(sg st:JV)(lk pn:Addr):List (Str×V):=[("signs",.str (tx sg)),("start",.str (tx st)),("kept",.ref lk),("numbers",.ref pn)]
def hV(R:RC)(H:Hp)(C dx a:Addr)(sg st:JV)(as:JY)(rs:Yaa):Prop:=
 ∃lk pn t,H a=some (.ins C dx (fL sg st lk pn))/\H lk=some (.lst (as.map V.ref))/\cP R H as rs/\cH H pn t/\i8 t=b6 (tx st) rs
def rg(R:RC)(H:Hp)(C dx a:Addr)(sg st:JV)(as:JY)(rs:Yaa)(lk pn:Addr)(t:NT):Prop:=
 H a=some (.ins C dx (fL sg st lk pn))/\H lk=some (.lst (as.map V.ref))/\cP R H as rs/\cH H pn t/\i8 t=b6 (tx st) rs
theorem rg.f{R:RC}{H:Hp}{C dx a:Addr}{sg st:JV}{as:JY}{rs:Yaa}{lk pn:Addr}{t:NT}(g:rg R H C dx a sg st as rs lk pn t):hV R H C dx a sg st as rs:=⟨lk,pn,t,g⟩
theorem hV.up{R:RC}{H H':Hp}{C dx a:Addr}{sg st:JV}{as:JY}{rs:Yaa}(g:hV R H C dx a sg st as rs)(s:az H H'):hV R H' C dx a sg st as rs:=by
 obtain⟨lk,pn,t,h1,h2,h3,h4,h5⟩:=g;exact⟨lk,pn,t,s _ _ h1,s _ _ h2,h3.up s,h4.grow s,h5⟩
def Cy(a C:Addr)(H:Hp)(y:Str×List Int)(E:XK):Prop:=∀(t d:Addr) (H':Hp),bR a H H'->H' t=some (.tup (En y))->H' d=some (.xd [("why",.ref t)])->E (.ref C) (some d) H'
theorem BP(k:Nat)(l:Addr)(v:RV):vR k l v≠[]:=λe=>by
 have:=(iL l v k).1;rw[e]at this;exact nomatch this
theorem cP.upX{R:RC}{H H':Hp}{a C dx:Addr}{as:JY}{rs:Yaa}(h:cP R H as rs)(ha:H a=some (.ins C dx []))(s:bR a H H'):cP R H' as rs:=by
 refine⟨h.1,λi b r e1 e2=>?_⟩;obtain⟨d,l,h1,h2⟩:=h.2 i b r e1 e2;refine⟨d,l,s _ _ (λe=>?_) h1,s _ _ (λe=>?_) h2⟩
 ·rw[e,ha]at h1
  have:=Option.some.inj h1;exact absurd (HO.ins.inj this).2.2.symm (BP _ _ _)
 ·rw[e,ha]at h2;cases h2
noncomputable abbrev dm:Stmt:=jG 44 0
inductive ge(K:W.Frag)(R:RC)(CF:Addr)(vs:List V)(H:Hp)(Q:VK)(E:XK):Prop
 |mk (a C dx l:Addr) (sg st:JV) (as:JY) (rs:Yaa) (_:vs=[.ref a,.str (tx sg),.str (tx st),.ref l]) (_:H a=some (.ins C dx [])) (_:m9 K C) (_:(aN K C "signs"/\aN K C "start"/\aN K C "kept"/\aN K C "numbers")) (_:sg.length<=1000) (_:st.length<=1000) (_:H l=some (.lst (as.map V.ref))) (_:cP R H as rs) (_:(∀r∈rs,r.1<4)) (_:rs.length<=100) (_:(iB sg st rs=none->∀H' lk pn t,bR a H H'->rg R H' C dx a sg st as rs lk pn t->H lk=none->H pn=none->(∀x∈t,H x.2.1=none)->Q .non H')) (_:∀y,iB sg st rs=some y->Cy a CF H y E)
theorem sv:aE ["self","signs","start","rules"] ["self","signs","start","rules"] (ak dm):=by walk_at "c"
theorem rG{R:RC}{f zaa:Addr}{fd:J0}{t1:Tok}(F:cF K "__init__" "Grammar.__init__" dm f fd)(nb:NB mg)(yaI:mg "MOST_NAMES"=some (.int 8 t1))
  (zka:mg "NoGrammar"=some (.ref zaa)) (zna:XI P w K mg base 1 zaa "why") (yaV:cY P w K mg base (dz P w) 3 "check_made_of" ["signs","start","rules"] (fS R zaa)) (yaK:cY P w K mg base bD 2 "numbers_by_name" ["start","rules"] (fg K R)) :
  bb P w K mg base (dz P w) 4 f fd ["self","signs","start","rules"] (ge K R zaa):=by
 have sc:=sv;walk_at "x"
 ·obtain⟨a,C,dx,l,sg,st,as,rs,rfl,_⟩:=h;rfl
 ·obtain⟨a,C,dx,l,sg,st,as,rs,rfl,ha,cl,⟨n1,n2,n3,n4⟩,hsg,hst,hl,hrs,hk4,hn,good,bad⟩:=h
  refine⟨_,(ag (bJ (aO (E:=E) yaV (hr.mono nofun) rfl (c_ λ_ _ _ h=>h) (aa (am 1) (aa (am 2) (aa (am 3) ad)))))
   (ag (dA (am 0) (am 1) rfl)
   (ag (dA (am 0) (am 2) rfl)
   (ag (dA (am 0) (fZ gw rfl nb.list sH (aa (am 3) ad)) rfl)
   (ag (dA (am 0) (aO (CX:=dz P w) yaK.lift (hr.mono nofun) rfl ck (aa (am 2) (aa (am 3) ad))) rfl)
   (ah (bd (aB (aZ.m0 gW) (au qc rfl nb.len aR (aa (e8 (am 0) rfl) ad)) (bI (v:=.int 8) rfl yaI ⟨_,rfl⟩) (aI _))
   (ah (dn zna (hr.mono nofun) rfl rfl zka (dj λ_ _ _ h=>h) (aa (aP (bg (aa (au qc rfl nb.len aR (aa (e8 (am 0) rfl) ad)) ad))) ad)))
   aL))))))),?_⟩
  walk_at "n";refine⟨sg,st,l,as,rs,rfl,hsg,hst,hl,hrs,hk4,hn,λg0 H1 sm1=>h1 _ _ ?_,λy hy t d H' sm ht hd=>bad y (by unfold iB;rw[hy]) t d H' (.of sm) ht hd⟩;clear h1;have ha1:=sm1 _ _ ha;have hla:l≠a:=λe=>by rw[e,ha]at hl;cases hl
  walk_at "o";refine⟨C,dx,_,ha1,cl,n1,by simp,h2 _ _ ?_⟩;clear h2;have sx2:bR a H (aC H1 a (.ins C dx [("signs",.str (tx sg))])):=(bR.of sm1).put;have ea2:aC H1 a (.ins C dx [("signs",.str (tx sg))]) a=some (.ins C dx [("signs",.str (tx sg))]):=ac;show _;change vT _ _ _ _ (aC H1 a (.ins C dx [("signs",.str (tx sg))]));generalize aC H1 a (.ins C dx [("signs",.str (tx sg))])=H2 at sx2 ea2 ⊢;clear sm1 ha1;refine ao λN3 h3=>?_;walk_at "wp";have d1:¬ (("signs":Str)="start"):=by decide +kernel
  have e3:cn "start" (V.str (tx st)) [(("signs":Str),V.str (tx sg))]=[(("signs":Str),V.str (tx sg)),(("start":Str),V.str (tx st))]:=by simp only[cn,if_neg d1]
  refine⟨C,dx,_,ea2,cl,n2,by simp,?_⟩;rw[e3];refine h3 _ _ ?_;clear h3;have sx3:bR a H (aC H2 a (.ins C dx [(("signs":Str),V.str (tx sg)),(("start":Str),V.str (tx st))])):=sx2.put;have ea3:aC H2 a (.ins C dx [(("signs":Str),V.str (tx sg)),(("start":Str),V.str (tx st))]) a=some (.ins C dx [(("signs":Str),V.str (tx sg)),(("start":Str),V.str (tx st))]):=ac;generalize aC H2 a (.ins C dx [(("signs":Str),V.str (tx sg)),(("start":Str),V.str (tx st))])=H3 at sx3 ea3 ⊢;clear sx2 ea2;have hl3:=sx3 _ _ hla hl;refine ao λN4 h4=>?_;walk_at "wp";refine⟨_,.inl (aW.of hl3),λlk hlk=>?_⟩;have hka:lk≠a:=λe=>by rw[e,ea3]at hlk;cases hlk
  have hlk0:lk≠l:=λe=>by rw[e,hl3]at hlk;cases hlk
  have sk:az H3 (aC H3 lk (.lst (as.map V.ref))):=ae hlk;have ek:aC H3 lk (.lst (as.map V.ref)) lk=some (.lst (as.map V.ref)):=ac;have fr1:H lk=none:=by
   cases e:H lk with
   |none=>rfl
   |some u=>rw[sx3 _ _ hka e]at hlk;cases hlk
  generalize aC H3 lk (.lst (as.map V.ref))=H4 at sk ek ⊢;have d2:¬ (("signs":Str)="kept"):=by decide +kernel
  have d3:¬ (("start":Str)="kept"):=by decide +kernel
  have e4:cn "kept" (V.ref lk) [(("signs":Str),V.str (tx sg)),(("start":Str),V.str (tx st))]=[(("signs":Str),V.str (tx sg)),(("start":Str),V.str (tx st)),(("kept":Str),V.ref lk)]:=by simp only[cn,if_neg d2,if_neg d3]
  refine⟨C,dx,_,sk _ _ ea3,cl,n3,by simp,?_⟩;rw[e4];refine h4 _ _ ?_;clear h4;have sx5:bR a H (aC H4 a (.ins C dx [(("signs":Str),V.str (tx sg)),(("start":Str),V.str (tx st)),(("kept":Str),V.ref lk)])):=(sx3.then sk).put;have ea5:aC H4 a (.ins C dx [(("signs":Str),V.str (tx sg)),(("start":Str),V.str (tx st)),(("kept":Str),V.ref lk)]) a=some (.ins C dx [(("signs":Str),V.str (tx sg)),(("start":Str),V.str (tx st)),(("kept":Str),V.ref lk)]):=ac;have ek5:aC H4 a (.ins C dx [(("signs":Str),V.str (tx sg)),(("start":Str),V.str (tx st)),(("kept":Str),V.ref lk)]) lk=some (.lst (as.map V.ref)):=by rw[aj hka];exact ek
  generalize aC H4 a (.ins C dx [(("signs":Str),V.str (tx sg)),(("start":Str),V.str (tx st)),(("kept":Str),V.ref lk)])=H5 at sx5 ea5 ek5 ⊢;refine ao λN5 h5=>?_;walk_at "wp";refine⟨tx st,l,as,rs,rfl,sx5 _ _ hla hl,hrs.upX ha sx5,hn,λpn H6 t hpn hN hm hfr sm6=>?_⟩;have hpa:pn≠a:=λe=>by rw[e,ea5]at hpn;cases hpn
  have hpk:pn≠lk:=λe=>by rw[e,ek5]at hpn;cases hpn
  have fr2:H pn=none:=by
   cases e:H pn with
   |none=>rfl
   |some u=>rw[sx5 _ _ hpa e]at hpn;cases hpn
  have fr3:∀x∈t,H x.2.1=none:=λx hx=>by
   have h5x:=hfr x hx;cases e:H x.2.1 with
   |none=>rfl
   |some u=>rw[sx5 _ _ (λz=>by rw[z,ea5]at h5x;cases h5x) e]at h5x;cases h5x
  have d4:¬ (("signs":Str)="numbers"):=by decide +kernel
  have d5:¬ (("start":Str)="numbers"):=by decide +kernel
  have d6:¬ (("kept":Str)="numbers"):=by decide +kernel
  have e6:cn "numbers" (V.ref pn) [(("signs":Str),V.str (tx sg)),(("start":Str),V.str (tx st)),(("kept":Str),V.ref lk)]=fL sg st lk pn:=by unfold fL;simp only[cn,if_neg d4,if_neg d5,if_neg d6]
  have ea6:=sm6 _ _ ea5;refine⟨C,dx,_,ea6,cl,n4,by simp,?_⟩;rw[e6];refine h5 _ _ ?_;clear h5;have sx7:bR a H (aC H6 a (.ins C dx (fL sg st lk pn))):=(sx5.then sm6).put;have gf:rg R (aC H6 a (.ins C dx (fL sg st lk pn))) C dx a sg st as rs lk pn t:=by
   refine⟨ac,by rw[aj hka];exact sm6 _ _ ek5,hrs.upX ha sx7,⟨by rw[aj hpa];exact hN.dict,λx hx=>?_,hN.apart⟩,hm⟩;have hq:=hN.list x hx;rw[aj (λe=>by rw[e,ea6]at hq;cases hq)];exact hq
  have ea7:aC H6 a (.ins C dx (fL sg st lk pn)) a=some (.ins C dx (fL sg st lk pn)):=ac;have ed7:aC H6 a (.ins C dx (fL sg st lk pn)) pn=some (.dK (uW t)):=by rw[aj hpa];exact hN.dict
  generalize aC H6 a (.ins C dx (fL sg st lk pn))=H7 at sx7 gf ea7 ed7 ⊢;have hlen:(uW t).length=(b6 (tx st) rs).length:=by rw[<- hm];unfold uW i8;rw[IT,IT]
  walk_at "wp";refine⟨C,dx,_,ea7,cl,n4,_,rfl,pn,rfl,_,ed7,?_⟩;rw[hlen]
  by_cases h8:8<(b6 (tx st) rs).length
  ·rw[if_pos ⋯]
   refine⟨C,dx,_,ea7,cl,n4,_,rfl,pn,rfl,_,ed7,ai ⋯,λp hp=>⟨ai ⋯,λd hd=>?_⟩⟩;rw[hlen]at hd ⊢;have hdp:p≠d:=λx=>by rw[<- x,ac]at hd;cases hd
   refine bad ("names",[((b6 (tx st) rs).length:Int)]) (by unfold iB;rw[g0];simp only[];rw[if_pos h8]) p d _ (((sx7.then (ae hp))).then (ae hd)) (by rw[aj hdp,ac];rfl) ac
  ·rw[if_neg ⋯]
   exact good (by unfold iB;rw[g0];simp only[];rw[if_neg h8]) H7 lk pn t sx7 gf fr1 fr2 fr3
noncomputable abbrev dy:Stmt:=jG 44 2
inductive dD(R:RC)(C:Addr)(vs:List V)(H:Hp)(Q:VK)(_E:XK):Prop
 |mk (a dx:Addr) (sg st:JV) (as:JY) (rs:Yaa) (k:Nat) (b:Addr) (_:vs=[.ref a,.int (k:Int)]) (_:hV R H C dx a sg st as rs) (_:as[k]?=some b) (_:Q (.ref b) H)
theorem qZ:aE ["self","k"] ["self","k"] (ak dy):=by walk_at "c"
theorem si{R:RC}{f C:Addr}{fd:J0}(F:cF K "rule" "Grammar.rule" dy f fd)(nb:NB mg)(cl:m9 K C)(na:aN K C "signs"/\aN K C "start"/\aN K C "kept"/\aN K C "numbers"):bb P w K mg base bD 1 f fd ["self","k"] (dD R C):=by
 have sc:=qZ;walk_at "f"
 ·obtain⟨a,dx,sg,st,as,rs,k,b,rfl,_⟩:=h;rfl
 ·obtain⟨a,dx,sg,st,as,rs,k,b,rfl,g,hb,q⟩:=h
  obtain⟨lk,pn,t,ha,hk,hrs,hN,hm⟩:=id g;have hu:=hr.units;refine⟨_,(ah (aG (ay aV (e8 (am 0) rfl) (am 1) (λ_ _=>rfl)))),?_⟩;walk_at "wp";exact⟨C,dx,_,ha,cl,na.2.2.1,_,rfl,lk,rfl,_,aW.of hk,_,aT (by rw[IV,hb];rfl),q⟩
noncomputable abbrev dq:Stmt:=jG 44 3
inductive gt(R:RC)(C:Addr)(vs:List V)(H:Hp)(Q:VK)(_E:XK):Prop
 |mk (a dx:Addr) (sg st:JV) (as:JY) (rs:Yaa) (_:vs=[.ref a]) (_:hV R H C dx a sg st as rs) (_:Q (.int (rs.length:Int)) H)
theorem qT:aE ["self"] ["self"] (ak dq):=by walk_at "c"
theorem qS{R:RC}{f C:Addr}{fd:J0}(F:cF K "many" "Grammar.many" dq f fd)(nb:NB mg)(cl:m9 K C)(na:aN K C "signs"/\aN K C "start"/\aN K C "kept"/\aN K C "numbers"):bb P w K mg base bD 1 f fd ["self"] (gt R C):=by
 have sc:=qT;walk_at "f"
 ·obtain⟨a,dx,sg,st,as,rs,rfl,_⟩:=h;rfl
 ·obtain⟨a,dx,sg,st,as,rs,rfl,g,q⟩:=h
  obtain⟨lk,pn,t,ha,hk,hrs,hN,hm⟩:=id g;have hu:=hr.units;refine⟨_,(ah (aG (au aQ rfl nb.len aR (aa (e8 (am 0) rfl) ad)))),?_⟩;walk_at "wp";refine⟨C,dx,_,ha,cl,na.2.2.1,_,rfl,lk,rfl,_,aW.of hk,?_⟩;rw[IT,hrs.1];exact q
noncomputable abbrev tD:Stmt:=eJ 23
inductive im(K:W.Frag)(CF:Addr)(vs:List V)(H:Hp)(Q:VK)(E:XK):Prop
 |mk (a b:Addr) (p q:bC) (r c r' c':Nat) (_:vs=[.ref a,.ref b]) (_:H a=some (.lst (aD p))) (_:H b=some (.lst (aD q))) (_:eG p r c) (_:eG q r' c') (_:0<r) (_:r<=6) (_:c<=6) (_:0<r') (_:r'<=6) (_:c'<=6) (_:(c=c'/\r+r'<=6->bS H (p++q) Q)) (_:(¬ (c=c'/\r+r'<=6)->E (.ref CF) none H))
theorem Al:aE ["one","other"] ["one","other"] (ak tD):=by walk_at "c"
theorem At{f zfa:Addr}{fd:J0}{tk:Tok}(F:cF K "above" "above" tD f fd)(nb:NB mg)(yau:mg "MOST"=some (.int 6 tk))(zwa:mg "NoFit"=some (.ref zfa))(zUa:XR K zfa):bb P w K mg base (dz P w) 1 f fd ["one","other"] (im K zfa):=by
 have sc:=Al;walk_at "x"
 ·obtain⟨a,b,p,q,r,c,r',c',rfl,_⟩:=h;rfl
 ·obtain⟨a,b,p,q,r,c,r',c',rfl,ha,hb,hp,hq,hr0,hr1,hc1,hr0',hr1',hc1',fit,yal⟩:=h
  refine⟨_,(ag (bd (PW.pt (fU (aB jb (au bf rfl nb.len aR (aa (ay aV (am 0) af (λ_ _=>rfl)) ad)) (au bf rfl nb.len aR (aa (ay aV (am 1) af (λ_ _=>rfl)) ad)) (aI _)) (d9 (aB (aZ.m0 gW) (aq (aZ.m0 bx) (au aQ rfl nb.len aR (aa (am 0) ad)) (au aQ rfl nb.len aR (aa (am 1) ad))) (bI (v:=.int 6) rfl yau ⟨_,rfl⟩) (aI _)))))
   (ah (eZ zUa rfl rfl zwa (fW λ_ _ _ h=>h) (bg ad)))
   aL)
   (ah (aG (aq rO (am 0) (am 1))))),?_⟩
  walk_at "wp";obtain⟨hl0,hc0⟩:=jX hp hr0;obtain⟨hl0',hc0'⟩:=jX hq hr0';refine⟨_,aW.of ha,_,aT (bh hl0),_,rfl,by rw[aH];exact ai ⋯,_,aW.of hb,_,aT (bh hl0'),_,rfl,by rw[aH];exact ai ⋯,?_⟩;rw[aH,aH,hc0,hc0']
  by_cases h1:(c:Int)=(c':Int)
  ·rw[if_neg (λh=>h h1)]
   refine⟨_,aW.of ha,_,aW.of hb,?_⟩;rw[av,av,hp.1,hq.1]
   by_cases h2:6<(r:Int)+(r':Int)
   ·rw[if_pos h2]
    exact⟨ai ⋯,yal ⋯⟩
   ·rw[if_neg h2]
    refine⟨_,ha,_,hb,by rw[av,av,hp.1,hq.1];exact ai ⋯,λl hl=>?_⟩;refine fit ⟨⋯,⋯⟩ l _ hl ?_ (ae hl);rw[ac];unfold aD;rw[Jd]
  ·rw[if_pos h1]
   exact⟨ai ⋯,yal ⋯⟩
noncomputable abbrev ot:Stmt:=eJ 22
noncomputable def mK(p q:bC):bC:=(p.zip q).map λx=>x.1++x.2
inductive fO(K:W.Frag)(CF:Addr)(vs:List V)(H:Hp)(Q:VK)(E:XK):Prop
 |mk (a b:Addr) (p q:bC) (r c r' c':Nat) (_:vs=[.ref a,.ref b]) (_:H a=some (.lst (aD p))) (_:H b=some (.lst (aD q))) (_:eG p r c) (_:eG q r' c') (_:0<r) (_:r<=6) (_:c<=6) (_:0<r') (_:r'<=6) (_:c'<=6) (_:(r=r'/\c+c'<=6->bS H (mK p q) Q)) (_:(¬ (r=r'/\c+c'<=6)->E (.ref CF) none H))
theorem yr:aE ["one","other"] ["one","other"] (ak ot):=by walk_at "c"
theorem yk{f zfa:Addr}{fd:J0}{tk:Tok}(F:cF K "beside" "beside" ot f fd)(nb:NB mg)(yau:mg "MOST"=some (.int 6 tk))(zwa:mg "NoFit"=some (.ref zfa))(zUa:XR K zfa):bb P w K mg base (dz P w) 1 f fd ["one","other"] (fO K zfa):=by
 have sc:=yr;walk_at "x"
 ·obtain⟨a,b,p,q,r,c,r',c',rfl,_⟩:=h;rfl
 ·obtain⟨a,b,p,q,r,c,r',c',rfl,ha,hb,hp,hq,hr0,hr1,hc1,hr0',hr1',hc1',fit,yal⟩:=h
  refine⟨_,(ag (bd (PW.pt (fU (aB jb (au aQ rfl nb.len aR (aa (am 0) ad)) (au aQ rfl nb.len aR (aa (am 1) ad)) (aI _)) (d9 (aB (aZ.m0 gW) (aq (aZ.m0 bx) (au bf rfl nb.len aR (aa (ay aV (am 0) af (λ_ _=>rfl)) ad)) (au bf rfl nb.len aR (aa (ay aV (am 1) af (λ_ _=>rfl)) ad))) (bI (v:=.int 6) rfl yau ⟨_,rfl⟩) (aI _)))))
   (ah (eZ zUa rfl rfl zwa (fW λ_ _ _ h=>h) (bg ad)))
   aL)
   (ah (aG (bO ["first","second"] [] rfl (bu.of (by kernel_rfl)) (by kernel_rfl) (DE rfl nb.zip (aa (am 0) (aa (am 1) ad)))
    (λ_ _ _ _=>(BT (K:=K) (n:=2) rfl rfl (a_ (aF (i:=0) (by show(["first","second"]:List Str).Nodup;decide +kernel) rfl (Or.inl rfl)) (a_ (aF (i:=1) (by show(["first","second"]:List Str).Nodup;decide +kernel) rfl (Or.inl rfl)) cM)))) (λ_ _ _ _=>bF) (λ_ _ _ _=>(aq m4 (am 0) (am 1))))))),?_⟩
  walk_at "wp";obtain⟨hl0,hc0⟩:=jX hp hr0;obtain⟨hl0',hc0'⟩:=jX hq hr0';refine⟨_,aW.of ha,_,aW.of hb,?_⟩;rw[av,av,hp.1,hq.1]
  by_cases h1:(r:Int)=(r':Int)
  ·rw[if_neg (λh=>h h1)]
   refine⟨_,aW.of ha,_,aT (bh hl0),_,rfl,by rw[aH];exact ai ⋯,_,aW.of hb,_,aT (bh hl0'),_,rfl,by rw[aH];exact ai ⋯,?_⟩;rw[aH,aH,hc0,hc0']
   by_cases h2:6<(c:Int)+(c':Int)
   ·rw[if_pos h2]
    exact⟨ai ⋯,yal ⋯⟩
   ·rw[if_neg h2]
    refine⟨_,aW.of ha,_,aW.of hb,?_⟩;have ybd:p.length=r:=hp.1;have ybg:q.length=r:=by rw[hq.1];omega
    have hput:(mK p q).length=r:=by unfold mK;rw[IT,List.length_zip,ybd,ybg,Nat.min_self]
    refine zD (xs:=aD p) (ys:=aD q) (n:=r) (by rw[av,av,ybd,ybg,Nat.min_self]) (λi acc σ H'=>az H H'/\acc=aD ((mK p q).take i)/\i<=r/\∃y z,σ=[y,z]) ⟨λ_ _ e=>e,rfl,Jp _,_,_,rfl⟩ ?_ ?_ ?_ ?_ ?_
    ·rintro i acc σ H' ⟨_,rfl,hi,_⟩
     rw[av,JC];exact bp ⋯
    ·rintro i acc σ H' ⟨_,_,h,_⟩
     exact h
    ·rintro i acc σ H' ⟨sm,_⟩
     exact⟨aW.of (sm _ _ ha),aW.of (sm _ _ hb)⟩
    ·rintro i x y acc σ H' T hx hy ⟨sm,rfl,_,y1,z1,rfl⟩ hT
     have hi:i<p.length:=by have:=(IR.mp hx).1;rwa [av]at this
     have hi':i<q.length:=by omega
     rw[bh hi]at hx;rw[bh hi']at hy;cases hx;cases hy;have hrow:=hp.2 _ (I_ hi);have ya0:=hq.2 _ (I_ hi');walk_at "wp";refine⟨_,bc.of ac,rfl,_,_,rfl,_,_,rfl,rfl,?_⟩;have e:(mK p q)[i]?=some (p[i]++q[i]):=by
      unfold mK;simp[List.getElem?_zip_eq_some,hi,hi'];exact⟨_,_,⟨rfl,rfl⟩,rfl⟩
     have et:tx p[i]++tx q[i]=tx (p[i]++q[i]):=by
      show(⟨_++_⟩:Str)=⟨_⟩;simp[tx]
     refine⟨_,rfl,_,rfl,by rw[aH,aH];exact ai ⋯,sm.trans (ae hT),?_,⋯⟩;rw[et,List.take_add_one,e];exact(eY _ _).symm
    ·rintro acc σ H' ⟨sm,rfl,_⟩ l hl
     refine fit ⟨⋯,⋯⟩ l _ (sm.free hl) ?_ (sm.trans (ae hl));rw[ac,<- hput,JB]
  ·rw[if_pos h1]
   exact⟨ai ⋯,yal ⋯⟩
noncomputable abbrev og:Stmt:=eJ 26
inductive qj(K:W.Frag)(vs:List V)(H:Hp)(Q:VK)(_E:XK):Prop
 |mk (a:Addr) (p:bC) (_:vs=[.ref a]) (_:aW K H a (aD p)) (_:qA p) (_:bS H (eD p) Q)
theorem yl:aE ["picture"] ["picture"] (ak og):=by walk_at "c"
theorem ye{f:Addr}{fd:J0}(F:cF K "mirror" "mirror" og f fd)(nb:NB mg):bb P w K mg base bD 1 f fd ["picture"] (qj K):=by
 have sc:=yl;walk_at "f"
 ·obtain⟨a,p,rfl,_⟩:=h;rfl
 ·obtain⟨a,p,rfl,hS,hp,q⟩:=h
  refine⟨_,(ah (aG (bO ["row"] [] rfl (bu.of (by kernel_rfl)) (by kernel_rfl) (c8 (am 0))
    (λ_ _ _ _=>(aF (i:=0) (by show(["row"]:List Str).Nodup;decide +kernel) rfl (Or.inl rfl))) (λ_ _ _ _=>bF) (λ_ _ _ _=>(wu rfl rfl nb.reversed (aa (am 0) ad)))))),?_⟩
  walk_at "wp";refine⟨⟨_,hS⟩,lX (xs:=aD p) (λi acc σ H'=>H'=H/\acc=aD (eD (p.take i))/\i<=p.length/\∃x,σ=[x]) ⟨rfl,rfl,Jp _,_,rfl⟩ ?_ ?_ ?_ ?_ ?_⟩
  ·rintro i acc σ H' ⟨_,rfl,_⟩
   refine bp ?_;rw[av];unfold eD;rw[IT,JC];have:=hp.1;omega
  ·rintro i acc σ H' ⟨_,_,h,_⟩
   rw[av];exact h
  ·rintro i acc σ H' ⟨rfl,_⟩
   exact hS
  ·rintro i x acc σ H' hx ⟨rfl,rfl,hi,y,rfl⟩
   have hl:i<p.length:=by have:=(IR.mp hx).1;rwa [av]at this
   rw[bh hl]at hx;cases hx;have hr:=hp.2 _ (I_ hl);walk_at "wp";refine⟨by rw[aH];omega,nofun,?_,hl⟩;rw[iI,fR,List.take_add_one,IQ hl];unfold eD;rw[Jd];exact(eY _ _).symm
  ·rintro acc σ H' ⟨rfl,rfl,_⟩ l hl
   rw[av,JB];exact q l _ hl ac (ae hl)
noncomputable abbrev cV:Stmt:=eJ 28
inductive qi(K:W.Frag)(vs:List V)(H:Hp)(Q:VK)(_E:XK):Prop
 |mk (a:Addr) (p:bC) (i:Nat) (_:vs=[.ref a,.int (i:Int)]) (_:aW K H a (aD p)) (_:qA p) (_:(∀r∈p,i<r.length)) (_:∀H',az H H'->Q (.str (tx (col p i))) H')
theorem yj:aE ["picture","i"] ["picture","i"] (ak cV):=by walk_at "c"
theorem yF{f:Addr}{fd:J0}(F:cF K "column_from_below" "column_from_below" cV f fd)(nb:NB mg):bb P w K mg base bD 1 f fd ["picture","i"] (qi K):=by
 have sc:=yj;walk_at "f"
 ·obtain⟨a,p,i,rfl,_⟩:=h;rfl
 ·obtain⟨a,p,i,rfl,hS,hp,hi,q⟩:=h
  refine⟨_,(ah (aG (eO PySem.F.plainAttrs_str PySem.F.slot_str_join PySem.F.type_str_join mX cT (aa (bO ["row"] [1] rfl (bu.of (by kernel_rfl)) (by kernel_rfl) (Ee rfl nb.reversed (aa (am 0) ad))
    (λ_ _ _ _=>(aF (i:=0) (by show(["row","i"]:List Str).Nodup;decide +kernel) rfl (Or.inl rfl))) (λ_ _ _ _=>bF) (λ_ _ _ _=>(ay le (am 0) (am 1) (λ_ _=>rfl)))) ad)))),?_⟩
  walk_at "wp";have hd:∀n,((p.reverse.take n).map λr=>V.str ⟨#[r.getD i 0]⟩)=(((p.reverse.take n).map λr=>r.getD i 0).map λc=>(⟨#[c]⟩:Str)).map V.str:=λn=>by rw[Jf,Jf];rfl
  refine⟨rfl,_,hS,z_ (xs:=aD p) (λn acc σ H'=>H'=H/\acc=((p.reverse.take n).map λr=>V.str ⟨#[r.getD i 0]⟩)/\n<=p.length/\∃x,σ=[x,some (.int (i:Int))]) ⟨rfl,rfl,Jp _,_,rfl⟩ ?_ ?_ ?_ ?_ ?_⟩
  ·rintro n acc σ H' ⟨_,rfl,_⟩
   refine bp ?_;rw[IT,JC];have:=hp.1;rw[Ji];omega
  ·rintro n acc σ H' ⟨_,_,h,_⟩
   rw[av];exact h
  ·rintro n acc σ H' ⟨rfl,_⟩
   exact hS
  ·rintro n x acc σ H' hx ⟨rfl,rfl,hn,y,rfl⟩
   have hl:n<p.reverse.length:=by
    have:=(IR.mp hx).1
    rwa [Ji,av,<- Ji (as:=p)]at this
   have hx':(aD p.reverse)[n]?=some x:=by unfold aD at hx ⊢;rwa [List.map_reverse]
   rw[bh hl]at hx';cases hx';have hm:p.reverse[n]∈p:=List.mem_reverse.mp (I_ hl);have hr:=hp.2 _ hm;have hri:=hi _ hm;walk_at "wp";have hc:(tx p.reverse[n]).cps.toList[i]?=some (p.reverse[n].getD i 0):=by rw[iI,List.getD_eq_getElem?_getD,IQ hri];rfl
   refine⟨by rw[aH];exact ai ⋯,_,aT hc,?_,by rw[Ji]at hl;exact hl⟩;rw[List.take_add_one,IQ hl,Jd]
   rfl
  ·rintro acc σ H' ⟨rfl,rfl,_⟩ l hl
   rw[av,<- Ji (as:=p),JB]at *;refine⟨(col p i).map λc=>(⟨#[c]⟩:Str),.inl (aW.of ?_),?_,?_⟩
   ·rw[ac];unfold col;rw[Jf,Jf];rfl
   ·rw[Jf]
    have e:((λy:Str=>y.length)∘λc=>(⟨#[c]⟩:Str))=λ_=>1:=by funext c;rfl
    rw[e,List.map_const',List.sum_replicate_nat,IT];have e0:(Str.ofString "").length=0:=rfl;rw[e0];have:=hp.1;unfold col;rw[IT,Ji];omega
   ·rw[fR];exact q _ (ae hl)
noncomputable abbrev lL:Stmt:=eJ 27
inductive gn(K:W.Frag)(vs:List V)(H:Hp)(Q:VK)(_E:XK):Prop
 |mk (a:Addr) (p:bC) (r c:Nat) (_:vs=[.ref a]) (_:aW K H a (aD p)) (_:eG p r c) (_:0<r) (_:r<=64) (_:c<=64) (_:bS H (eX p) Q)
theorem wl:aE ["picture"] ["picture"] (ak lL):=by walk_at "c"
theorem va{f:Addr}{fd:J0}(F:cF K "quarter" "quarter" lL f fd)(nb:NB mg)(yaR:cY P w K mg base bD 1 "column_from_below" ["picture","i"] (qi K)):bb P w K mg base bD 2 f fd ["picture"] (gn K):=by
 have sc:=wl;walk_at "f"
 ·obtain⟨a,p,r,c,rfl,_⟩:=h;rfl
 ·obtain⟨a,p,r,c,rfl,hS,hp,hr0,hr1,hc1,q⟩:=h
  refine⟨_,(ah (aG (bO ["i"] [0] rfl (bu.of (by kernel_rfl)) (by kernel_rfl) (bW rfl nb.range (aa (au bf rfl nb.len aR (aa (ay aV (am 0) af (λ_ _=>rfl)) ad)) ad))
    (λ_ _ _ _=>(aF (i:=0) (by show(["i","picture"]:List Str).Nodup;decide +kernel) rfl (Or.inl rfl))) (λ_ _ _ _=>bF) (λ_ _ _ _=>(aO yaR (hr.mono nofun) rfl ba (aa (am 1) (aa (am 0) ad))))))),?_⟩
  walk_at "wp";have hl0:0<p.length:=by rw[hp.1];exact hr0
  have hc0:(p[0]).length=c:=hp.2 _ (I_ hl0);have hh:(p.headD []).length=c:=bQ hp hr0;refine⟨_,hS,_,aT (bh hl0),_,rfl,by rw[aH];exact ai ⋯,by rw[aH];omega,by rw[aH];omega,?_⟩;rw[aH,hc0,Ja];refine gv (lo:=0) (n:=c) (λi acc σ H'=>az H H'/\acc=aD ((List.range i).map (col p))/\i<=c/\∃x,σ=[x,some (.ref a)]) ⟨az.refl _,rfl,Jp _,_,rfl⟩ ?_ ?_ ?_ ?_
  ·rintro i acc σ H' ⟨_,rfl,_⟩
   refine bp ?_;rw[av,IT,List.length_range];omega
  ·rintro i acc σ H' ⟨_,_,h,_⟩
   exact h
  ·rintro i acc σ H' hi ⟨sm,rfl,_,y,rfl⟩
   walk_at "wp";refine⟨a,p,i,by simp,sm.seq hS,qA.of hp hr1 hc1,λx hx=>by rw[hp.2 x hx];exact hi,λH2 sm2=>⟨sm.trans sm2,?_,hi⟩⟩;rw[List.range_succ,Jd];exact(eY _ _).symm
  ·rintro acc σ H' ⟨sm,rfl,_⟩ l hl
   refine q l _ (sm.free hl) ?_ (sm.trans (ae hl));rw[ac];unfold eX;rw[hh]
noncomputable abbrev oI:Stmt:=eJ 25
inductive kR(K:W.Frag)(vs:List V)(H:Hp)(Q:VK)(_E:XK):Prop
 |mk (a:Addr) (p:bC) (r c t:Nat) (_:vs=[.ref a,.int (t:Int)]) (_:aW K H a (aD p)) (_:eG p r c) (_:0<r) (_:0<c) (_:r<=64) (_:c<=64) (_:t<8) (_:bS H (turned p t) Q)
theorem yV:aE ["picture","t","result","step"] ["picture","t"] (ak oI):=by walk_at "c"
theorem xH{f:Addr}{fd:J0}(F:cF K "turned" "turned" oI f fd)(nb:NB mg)(ya6:cY P w K mg base bD 1 "mirror" ["picture"] (qj K))(yaU:cY P w K mg base bD 2 "quarter" ["picture"] (gn K)):bb P w K mg base bD 3 f fd ["picture","t"] (kR K):=by
 have sc:=yV;walk_at "f"
 ·obtain⟨a,p,r,c,t,rfl,_⟩:=h;rfl
 ·obtain⟨a,p,r,c,t,rfl,hS,hp,hr0,hc0,hr1,hc1,ht,q⟩:=h
  refine⟨_,(ag (aM (i:=2) sc.nd rfl (Or.inl rfl) (fZ gw rfl nb.list sH (aa (pv 0) ad)))
   (ag (bd (aB Br (pv 1) af (aI _))
   (ah (aM (i:=2) sc.nd rfl (Or.inl rfl) (aO ya6 (hr.mono nofun) rfl ba (aa (pv 2) ad))))
   aL)
   (ag (bK PassesOwn.never rfl (bW rfl nb.range (aa (aq aX (pv 1) af) ad)) (aF (i:=3) sc.nd rfl (Or.inl rfl))
   (ah (aM (i:=2) sc.nd rfl (Or.inl rfl) (aO yaU (hr.mono nofun) rfl ba (aa (pv 2) ad)))))
   (ah (aG (pv 2)))))),?_⟩
  walk_at "wp"
  -- the bA,from the list at l
  have loop:∀(l:Addr) (p':bC) (H1:Hp),H l=none->H1 l=some (.lst (aD p'))->az H H1->eG p' r c->turned p t=bA (t%4) p' ->
    ∀(g:TG) (tb:TS) (D:gY),g=gQ 3->tb=v1 (ml (gn K) [] E0 (hZ (yH 2) nN)) (gQ 2)->(∀σ' H' v,σ'[2]?=some (some v)->Q v H'->D.nx σ' H')->t5 (ze 0 ((t:Int)%4).toNat) g tb D [some (V.ref a),some (V.int t),some (V.ref l),none] H1:=by
   intro l p' H1 hl h1 sm hp' et g tb D hg htb hD;subst hg htb;have e4:((t:Int)%4).toNat=t%4:=by omega
   rw[e4];refine dJ (λi σ H2=>∃(l2:Addr) (x:Option V),σ=[some (V.ref a),some (V.int t),some (V.ref l2),x]/\H l2=none/\H2 l2=some (.lst (aD (bA i p')))/\az H H2) ⟨l,none,rfl,hl,h1,sm⟩ ?_ ?_
   ·rintro i σ H2 hi ⟨l2,x,rfl,h2,h3,sm2⟩
    walk_at "wp";have hq:=dU i hp' hr0 hc0;have gp:∀r' c',eG (bA i p') r' c'->0<r'->r'<=64->c'<=64->gn K [V.ref l2] H2 (λx_1 H1=>∃l2,x_1=V.ref l2/\H l2=none/\H1 l2=some (HO.lst (aD (bA (i+1) p')))/\az H H1) E0:=λr' c' h4 h5 h6 h7=>
     ⟨l2,bA i p',r',c',rfl,aW.of h3,h4,h5,h6,h7,λl3 H3 h8 h9 sm3=>⟨l3,rfl,sm2.free h8,by rw[h9,<- kz 1 i p'];rfl,sm2.trans sm3⟩⟩
    by_cases hi2:i%2=0
    ·rw[if_pos hi2,if_pos hi2]at hq
     exact gp r c hq hr0 hr1 hc1
    ·rw[if_neg hi2,if_neg hi2]at hq
     exact gp c r hq hc0 hc1 hr1
   ·rintro σ H2 ⟨l2,x,rfl,h2,h3,sm2⟩
    exact hD _ _ _ rfl (q l2 H2 h2 (by rw[h3,et]) sm2)
  refine⟨_,.inl hS,λl hl=>?_⟩
  split
  ·rename_i h4
   refine⟨l,p,rfl,aW.of ac,qA.of hp hr1 hc1,λl2 H2 h2 h3 sm2=>⟨⋯,⋯,?_⟩⟩;refine loop l2 (eD p) H2 ((ae hl).free h2) h3 ((ae hl).trans sm2) (il hp) (by unfold turned;rw[if_pos ⋯]) _ _ _ rfl rfl ?_;intro σ' H' v e hq;exact⟨v,e,hq⟩
  ·rename_i h4
   refine⟨⋯,⋯,?_⟩;refine loop l p _ hl ac (ae hl) hp (by unfold turned;rw[if_neg ⋯]) _ _ _ rfl rfl ?_;intro σ' H' v e hq;exact⟨v,e,hq⟩
noncomputable abbrev dg:Stmt:=jG 36 1
inductive gD(C:Addr)(vs:List V)(H:Hp)(Q:VK)(_E:XK):Prop
 |mk (a dx l b:Addr) (n sg:JV) (c:Int) (_:vs=[.ref a,.ref b]) (_:H a=some (.ins C dx (C4 n c l sg))) (_:bS H [sg] Q)
theorem qR:aE ["self","pictures"] ["self","pictures"] (ak dg):=by walk_at "c"
theorem s_{f C:Addr}{fd:J0}(F:cF K "made" "CellRule.made" dg f fd)(cl:m9 K C)(na:aN K C "sign"):bb P w K mg base bD 1 f fd ["self","pictures"] (gD C):=by
 have sc:=qR;walk_at "f"
 ·obtain⟨a,dx,l,b,n,sg,c,rfl,_⟩:=h;rfl
 ·obtain⟨a,dx,l,b,n,sg,c,rfl,ha,q⟩:=h
  refine⟨_,(ah (aG (bw (aa (e8 (am 0) rfl) ad)))),?_⟩;walk_at "wp";exact⟨C,dx,_,ha,cl,na,_,rfl,ai nofun,λp hp=>q p _ hp ac (ae hp)⟩
inductive cR(spf:Sp)(vs:List V)(H:Hp)(Q:VK)(E:XK):Prop
 |mk (a b a1 a2:Addr) (_:vs=[.ref a,.ref b]) (_:H b=some (.lst [.ref a1,.ref a2])) (_:spf [.ref a1,.ref a2] H Q E)
noncomputable abbrev ce:Stmt:=jG 37 1
theorem oM:aE ["self","pictures"] ["self","pictures"] (ak ce):=by walk_at "c"
theorem nV{f zfa:Addr}{fd:J0}(F:cF K "made" "BesideRule.made" ce f fd)(yaJ:cY P w K mg base (dz P w) 1 "beside" ["one","other"] (fO K zfa)):bb P w K mg base (dz P w) 2 f fd ["self","pictures"] (cR (fO K zfa)):=by
 have sc:=oM;walk_at "x"
 ·obtain⟨a,b,a1,a2,rfl,_⟩:=h;rfl
 ·obtain⟨a,b,a1,a2,rfl,hb,q⟩:=h
  refine⟨_,(ah (aG (aO (E:=E) yaJ (hr.mono nofun) rfl (c_ λ_ _ _ h=>h) (aa (ay aV (am 1) af (λ_ _=>rfl)) (aa (ay aV (am 1) af (λ_ _=>rfl)) ad))))),?_⟩;walk_at "wp";exact⟨_,aW.of hb,_,rfl,_,aW.of hb,_,rfl,q⟩
noncomputable abbrev cN:Stmt:=jG 38 1
theorem pi:aE ["self","pictures"] ["self","pictures"] (ak cN):=by walk_at "c"
theorem pG{f zfa:Addr}{fd:J0}(F:cF K "made" "AboveRule.made" cN f fd)(ya2:cY P w K mg base (dz P w) 1 "above" ["one","other"] (im K zfa)):bb P w K mg base (dz P w) 2 f fd ["self","pictures"] (cR (im K zfa)):=by
 have sc:=pi;walk_at "x"
 ·obtain⟨a,b,a1,a2,rfl,_⟩:=h;rfl
 ·obtain⟨a,b,a1,a2,rfl,hb,q⟩:=h
  refine⟨_,(ah (aG (aO (E:=E) ya2 (hr.mono nofun) rfl (c_ λ_ _ _ h=>h) (aa (ay aV (am 1) af (λ_ _=>rfl)) (aa (ay aV (am 1) af (λ_ _=>rfl)) ad))))),?_⟩;walk_at "wp";exact⟨_,aW.of hb,_,rfl,_,aW.of hb,_,rfl,q⟩
inductive gK(K:W.Frag)(C:Addr)(vs:List V)(H:Hp)(Q:VK)(E:XK):Prop
 |mk (a dx l b a1:Addr) (n o1:JV) (c t:Int) (_:vs=[.ref a,.ref b]) (_:H a=some (.ins C dx (C5 n c l o1 t))) (_:H b=some (.lst [.ref a1])) (_:kR K [.ref a1,.int t] H Q E0)
noncomputable abbrev dv:Stmt:=jG 39 1
theorem rT:aE ["self","pictures"] ["self","pictures"] (ak dv):=by walk_at "c"
theorem sd{f C:Addr}{fd:J0}(F:cF K "made" "TurnRule.made" dv f fd)(cl:m9 K C)(na:aN K C "turning")(zvd:cY P w K mg base bD 3 "turned" ["picture","t"] (kR K)):bb P w K mg base bD 4 f fd ["self","pictures"] (gK K C):=by
 have sc:=rT;walk_at "f"
 ·obtain⟨a,dx,l,b,a1,n,o1,c,t,rfl,_⟩:=h;rfl
 ·obtain⟨a,dx,l,b,a1,n,o1,c,t,rfl,ha,hb,q⟩:=h
  refine⟨_,(ah (aG (aO zvd (hr.mono nofun) rfl ba (aa (ay aV (am 1) af (λ_ _=>rfl)) (aa (e8 (am 0) rfl) ad))))),?_⟩;walk_at "wp";exact⟨_,aW.of hb,_,rfl,C,dx,_,ha,cl,na,_,rfl,q⟩
structure g7(p:bC)(r c:Nat):Prop where
 rc:eG p r c
 r0:0<r
 r6:r<=6
 c0:0<c
 c6:c<=6
inductive ly:Nat->List bC->Prop
 |cell:ly 0 []
 |beside {p q:bC} {r c r' c':Nat}:g7 p r c->g7 q r' c'->ly 1 [p,q]
 |above {p q:bC} {r c r' c':Nat}:g7 p r c->g7 q r' c'->ly 2 [p,q]
 |turn {p:bC} {r c:Nat}:g7 p r c->ly 3 [p]
def m8(H:Hp)(l:Addr)(as:JY)(ps:List bC):Prop:=H l=some (.lst (as.map V.ref))/\as.length=ps.length/\∀i (h1:i<as.length) (h2:i<ps.length),H as[i]=some (.lst (aD ps[i]))
noncomputable def dF(k:Nat)(v:RV)(ps:List bC):Option bC:=
 match k,ps with
 |0,_=>some [v.sg]
 |1,[p,q]=>if p.length=q.length/\(p.headD []).length+(q.headD []).length<=6 then some (mK p q) else none
 |2,[p,q]=>if(p.headD []).length=(q.headD []).length/\p.length+q.length<=6 then some (p++q) else none
 |_,[p]=>some (turned p v.t.toNat)
 |_,_=>none
noncomputable def md(K:W.Frag)(R:RC)(CF:Addr):List (Addr×Sp):=[(R.cc,gD R.cc),(R.cb,cR (fO K CF)),(R.ca,cR (im K CF)),(R.ct,gK K R.ct)]
theorem Be{R:RC}{CF:Addr}{H:Hp}{k a b}{v:RV}{as:JY}{ps:List bC}{Q:VK}{E:XK}(r:iu R H k a v)(ok:Fq k v)(pa:m8 H b as ps)(ft:ly k ps)
  (q:∀p,dF k v ps=some p->bS H p Q) (x:dF k v ps=none->E (.ref CF) none H) :
  ∃o∈md K R CF,∃dx fs,H a=some (.ins o.1 dx fs)/\fs.lookup ("made":Str)=none/\o.2 [.ref a,.ref b] H Q E:=by
 obtain⟨dx,l,h1,_⟩:=r;obtain⟨hb,hl,hat⟩:=pa;cases ft with
 |cell=>exact⟨(R.cc,gD R.cc),by simp[md],dx,_,h1,rfl,a,dx,l,b,v.n,v.sg,v.c,rfl,h1,q _ rfl⟩
 | @beside p q' r c r' c' hp hq=>
  obtain⟨a1,a2,rfl⟩:∃a1 a2,as=[a1,a2]:=by match as,hl with | [a1,a2],_=>exact⟨a1,a2,rfl⟩
  have e1:=hat 0 (by simp) (by simp);have e2:=hat 1 (by simp) (by simp);have hh1:=bQ hp.rc hp.r0;have hh2:=bQ hq.rc hq.r0;have hl1:=hp.rc.1;have hl2:=hq.rc.1;refine⟨(R.cb,cR (fO K CF)),by simp[md],dx,_,h1,rfl,a,b,a1,a2,rfl,hb,a1,a2,p,q',r,c,r',c',rfl,e1,e2,hp.rc,hq.rc,hp.r0,hp.r6,hp.c6,hq.r0,hq.r6,hq.c6,λfit=>q _ ?_,λyal=>x ?_⟩
  ·show(if _ then _ else _)=_
   rw[if_pos (by rw[hl1,hl2,hh1,hh2];exact fit)]
  ·show(if _ then _ else _)=_
   rw[if_neg (by rw[hl1,hl2,hh1,hh2];exact yal)]
 | @above p q' r c r' c' hp hq=>
  obtain⟨a1,a2,rfl⟩:∃a1 a2,as=[a1,a2]:=by match as,hl with | [a1,a2],_=>exact⟨a1,a2,rfl⟩
  have e1:=hat 0 (by simp) (by simp);have e2:=hat 1 (by simp) (by simp);have hh1:=bQ hp.rc hp.r0;have hh2:=bQ hq.rc hq.r0;have hl1:=hp.rc.1;have hl2:=hq.rc.1;refine⟨(R.ca,cR (im K CF)),by simp[md],dx,_,h1,rfl,a,b,a1,a2,rfl,hb,a1,a2,p,q',r,c,r',c',rfl,e1,e2,hp.rc,hq.rc,hp.r0,hp.r6,hp.c6,hq.r0,hq.r6,hq.c6,λfit=>q _ ?_,λyal=>x ?_⟩
  ·show(if _ then _ else _)=_
   rw[if_pos (by rw[hl1,hl2,hh1,hh2];exact fit)]
  ·show(if _ then _ else _)=_
   rw[if_neg (by rw[hl1,hl2,hh1,hh2];exact yal)]
 | @turn p r c hp=>
  obtain⟨a1,rfl⟩:∃a1,as=[a1]:=by match as,hl with | [a1],_=>exact⟨a1,rfl⟩
  have e1:=hat 0 (by simp) (by simp);have t0:0<=v.t:=ok.2.1;have t7:v.t<=7:=ok.2.2;refine⟨(R.ct,gK K R.ct),by simp[md],dx,_,h1,rfl,a,dx,l,b,a1,v.n,v.o1,v.c,v.t,rfl,h1,hb,a1,p,r,c,v.t.toNat,by rw[JN t0],aW.of e1,hp.rc,hp.r0,hp.c0,by have:=hp.r6;omega,by have:=hp.c6;omega,⋯,q _ rfl⟩
noncomputable abbrev oZ:Stmt:=eJ 49
inductive lP(K:W.Frag)(vs:List V)(H:Hp)(Q:VK)(_E:XK):Prop
 |mk (a:Addr) (ns:List Int) (k:Nat) (_:vs=[.ref a,.int (k:Int)]) (_:aW K H a (ns.map V.int)) (_:k<=1000) (_:∀c:Int,Q (.int c) H)
theorem yt:aE ["_law_script","_law_k","_law_cell_here","_law_mixed"] ["_law_script","_law_k"] (ak oZ):=by walk_at "c"
theorem xA{f:Addr}{fd:J0}(F:cF K "_law_cell" "_law_cell" oZ f fd)(nb:NB mg):bb P w K mg base bD 1 f fd ["_law_script","_law_k"] (lP K):=by
 have sc:=yt;walk_at "f"
 ·obtain⟨a,ns,k,rfl,_⟩:=h;rfl
 ·obtain⟨a,ns,k,rfl,hS,hk,q⟩:=h
  refine⟨_,(ag (aM (i:=2) sc.nd rfl (Or.inl rfl) af)
   (ag (bd (aB lZ (pv 1) (au aQ rfl nb.len aR (aa (pv 0) ad)) (aI _))
   (ah (aM (i:=2) sc.nd rfl (Or.inl rfl) (ay kj (pv 0) (pv 1) (λ_ _=>rfl))))
   aL)
   (ag (aM (i:=3) sc.nd rfl (Or.inl rfl) (aq aX (aq fh (aq bx (aq bx (aq aX (pv 2) af) (aq fh af (pv 1))) af) af) af))
   (ah (aG (aq bx (aq fh (aq bi (pv 2) af) af) (aq aX (aq bx (aq fh (pv 3) af) (pv 1)) af))))))),?_⟩
  walk_at "wp";refine⟨_,hS,?_⟩;rw[IT]
  split
  ·rename_i hlt
   have hlt':k<ns.length:=by omega
   refine⟨_,hS,V.int ns[k],aT (by rw[IV,IQ hlt'];rfl),?_⟩;walk_at "wp";exact q _
  ·exact q _
noncomputable def fT(s:Nat):Nat:=match s with | 0=>1 | 1=>3 | 2=>5 | _=>7
noncomputable def Dj(d s m:Nat):List Nat:=(List.range (1+m)).map λi=>97+(d+i*fT s)%26
theorem BL:∀d,d<26->∀s,s<4->∀m,m<4->cU (Dj d s m)=true:=by decide +kernel
theorem Ct:∀n,n<4->([V.int 1,V.int 3,V.int 5,V.int 7]:List V)[n]?=some (V.int (fT n:Nat))/\fT n<=7
 |0,_=>⟨rfl,nofun⟩
 |1,_=>⟨rfl,nofun⟩
 |2,_=>⟨rfl,nofun⟩
 |3,_=>⟨rfl,nofun⟩
theorem A5:∀n,n<26->(Str.ofString "abcdefghijklmnopqrstuvwxyz").cps.toList[n]?=some (97+n):=by decide +kernel
theorem jI{r:JV}(h:cU r=true):1<=r.length/\r.length<=4:=by
 unfold cU at h;simp only[Bool.and_eq_true,decide_eq_true_eq]at h;exact⟨h.1.1.1,h.1.1.2⟩
noncomputable abbrev kS:Stmt:=eJ 50
inductive nn(vs:List V)(H:Hp)(Q:VK)(_E:XK):Prop
 |mk (c:Int) (_:vs=[.int c,.int 4]) (_:∀(r:JV) (H':Hp),cU r=true->az H H'->Q (.str (tx r)) H')
theorem vn:aE ["_law_cell_here","_law_most","_law_letters","_law_step"] ["_law_cell_here","_law_most"] (ak kS):=by walk_at "c"
theorem wv{f:Addr}{fd:J0}(F:cF K "_law_signs" "_law_signs" kS f fd)(nb:NB mg):bb P w K mg base bD 1 f fd ["_law_cell_here","_law_most"] nn:=by
 have sc:=vn;walk_at "f"
 ·obtain⟨c,rfl,_⟩:=h;rfl
 ·obtain⟨c,rfl,q⟩:=h
  refine⟨_,(ag (aM (i:=2) sc.nd rfl (Or.inr rfl) cT)
   (ag (aM (i:=3) sc.nd rfl (Or.inr rfl) (ay aA (aP (bB (bB (bB (bB ad))))) (aq (aZ.m1 aX) (aq (aZ.m1 bi) (am 0) (am 1)) af) (λ_ _=>rfl)))
   (ah (aG (eO PySem.F.plainAttrs_str PySem.F.slot_str_join PySem.F.type_str_join mX cT (aa (bO ["_law_k"] [2,0,1,3] rfl (bu.of (by kernel_rfl)) (by kernel_rfl) (bW rfl nb.range (aa (aq (aZ.m0 bx) af (aq (aZ.m1 aX) (am 0) (am 1))) ad))
    (λ_ _ _ _=>(aF (i:=0) (by show(["_law_k","_law_letters","_law_cell_here","_law_most","_law_step"]:List Str).Nodup;decide +kernel) rfl (Or.inl rfl))) (λ_ _ _ _=>bF) (λ_ _ _ _=>(ay le (am 1) (aq (aZ.m1 aX) (aq (aZ.m0 bx) (aq (aZ.m1 bi) (aq (aZ.m1 bi) (am 2) (am 3)) af) (aq (aZ.m1 fh) (am 0) (am 4))) af) (λ_ _=>rfl)))) ad)))))),?_⟩
  obtain⟨m,hm⟩:∃m:Nat,c%4=(m:Int):=⟨_,(JN (JL _ ⋯)).symm⟩;obtain⟨s4,hs4⟩:∃m:Nat,c/4%4=(m:Int):=⟨_,(JN (JL _ ⋯)).symm⟩;obtain⟨d,hd⟩:∃m:Nat,c/4/4%26=(m:Int):=⟨_,(JN (JL _ ⋯)).symm⟩;have m2:m<4:=by have:=JM c (b:=4) ⋯;omega
  have s2:s4<4:=by have:=JM (c/4) (b:=4) ⋯;omega
  have d2:d<26:=by have:=JM (c/4/4) (b:=26) ⋯;omega
  walk_at "n";refine h1 _ _ ?_;walk_at "nc";obtain⟨stp,stl⟩:=Ct s4 s2;refine⟨ai nofun,λp hp=>⟨_,bc.of ac,_,by rw[hs4];exact aT stp,h1 _ _ ?_⟩⟩;clear h1;have s1:az H (aC H p (.tup [V.int 1,V.int 3,V.int 5,V.int 7])):=ae hp;generalize aC H p (.tup [V.int 1,V.int 3,V.int 5,V.int 7])=H1 at s1 ⊢;walk_at "wp";rw[hm];have en:(1+(m:Int)).toNat=1+m:=by omega
  rw[en];refine⟨rfl,⋯,⋯,?_⟩;have chr:∀i:Nat,(c/4/4+(i:Int)*((fT s4:Nat):Int))%26=(((d+i*fT s4)%26:Nat):Int):=λi=>by
   rw[Int.add_emod,hd]
   push_cast
   rw[Int.add_emod (d:Int) ((i:Int)*((fT s4:Nat):Int)),Int.emod_eq_of_lt (a:=(d:Int)) ⋯ ⋯]
  refine fu (n:=1+m) (f:=λi=>some (V.str ⟨#[97+(d+i*fT s4)%26]⟩)) (λσ=>∃x,σ=[x,some (.str "abcdefghijklmnopqrstuvwxyz"),some (.int c),some (.int 4),some (.int ((fT s4:Nat):Int))]) ⟨_,rfl⟩ ⋯ ?_ ?_
  ·rintro i hi σ H' N1 N0 ⟨y,rfl⟩ sm k1 k0
   walk_at "wp";have hb:i*fT s4<=4*7:=Nat.mul_le_mul ⋯ stl;have h2:(i:Int)*((fT s4:Nat):Int)=((i*fT s4:Nat):Int):=by push_cast;rfl
   refine⟨⋯,nofun,97+(d+i*fT s4)%26,?_,k1 _ _ _ rfl sm ⟨_,rfl⟩⟩;rw[chr i];exact aT (A5 _ (Nat.mod_lt _ ⋯))
  ·intro H' sm l hl
   rw[kG];have e0:(List.range (1+m)).map (λi=>V.str ⟨#[97+(d+i*fT s4)%26]⟩)=((Dj d s4 m).map λc=>(⟨#[c]⟩:Str)).map V.str:=by
    unfold Dj;rw[Jf,Jf];rfl
   rw[e0];have hg:=BL d d2 s4 s2 m m2;have hgl:=jI hg;refine⟨_,.inl (aW.of ac),?_,?_⟩
   ·rw[Jf]
    have e1:((λy:Str=>y.length)∘λc=>(⟨#[c]⟩:Str))=λ_=>1:=by funext c;rfl
    have e0:(Str.ofString "").length=0:=rfl;rw[e1,List.map_const',List.sum_replicate_nat,IT,e0];omega
   ·rw[fR]
    exact q _ _ hg ((s1.trans sm).trans (ae hl))
theorem Bq:∀n,n<26->(Str.ofString "ABCDEFGHIJKLMNOPQRSTUVWXYZ").cps.toList[n]?=some (65+n):=by decide +kernel
noncomputable def Cv(c:Nat):Bool:=EK Dl c
theorem vJ:∀n,n<26->Cv (65+n)=true:=by decide +kernel
noncomputable abbrev lh:Stmt:=eJ 53
inductive nG(vs:List V)(H:Hp)(Q:VK)(_E:XK):Prop
 |mk (c:Int) (_:vs=[.int c]) (_:∀(l:Addr) (p:bC) (H':Hp),H l=none->H' l=some (.lst (aD p))->p.length=4->(∀r∈p,cA r=true)->az H H'->Q (.ref l) H')
theorem vF:aE ["_law_cell_here","_law_letters","_law_rest","_law_word","_law_spot","_law_first","_law_step","_law_names_here","_law_k"] ["_law_cell_here"] (ak lh):=by walk_at "c"
theorem vi{f:Addr}{fd:J0}(F:cF K "_law_names" "_law_names" lh f fd)(nb:NB mg):bb P w K mg base bD 1 f fd ["_law_cell_here"] nG:=by
 have sc:=vF;walk_at "f"
 ·obtain⟨c,rfl,_⟩:=h;rfl
 ·obtain⟨c,rfl,q⟩:=h
  refine⟨_,(ag (aM (i:=1) sc.nd rfl (Or.inr rfl) cT)
   (ag (aM (i:=2) sc.nd rfl (Or.inr rfl) (aq (aZ.m1 bi) (am 0) af))
   (ag (nr (i:=3) ["_law_k"] [1,2] sc.nd rfl (Or.inl rfl) rfl  rfl (bu.of (by kernel_rfl)) (by kernel_rfl) (bW rfl nb.range (aa (aq (aZ.m0 bx) af (aq (aZ.m1 aX) (am 0) af)) ad))
    (λ_ _ _ _=>(aF (i:=0) (by show(["_law_k","_law_letters","_law_rest"]:List Str).Nodup;decide +kernel) rfl (Or.inl rfl))) (λ_ _ _ _=>bF) (λ_ _ _ _=>(ay le (am 1) (aq (aZ.m1 aX) (aq (aZ.m1 bi) (am 2) (aq (aZ.m0 bx) af (aq (aZ.m1 fh) af (am 0)))) af) (λ_ _=>rfl))))
   (ag (aM (i:=4) sc.nd rfl (Or.inl rfl) (aq (aZ.m1 aX) (am 2) (au aQ rfl nb.len aR (aa (am 3) ad))))
   (ag (aM (i:=5) sc.nd rfl (Or.inl rfl) (eO PySem.F.plainAttrs_str PySem.F.slot_str_find PySem.F.type_str_find B6 (am 1) (aa (ay aV (am 3) (am 4) (λ_ _=>rfl)) ad)))
   (ag (aM (i:=6) sc.nd rfl (Or.inl rfl) (aq (aZ.m1 fh) (aq (aZ.m0 bx) af (aq (aZ.m1 aX) (aq (aZ.m1 bi) (am 2) af) af)) (aq (aZ.m1 aX) (aq (aZ.m1 bi) (am 0) af) af)))
   (ag (aM (i:=7) sc.nd rfl (Or.inl rfl) (bw ad))
   (ag (bK PassesOwn.never rfl (bW rfl nb.range (bB ad)) (aF (i:=8) sc.nd rfl (Or.inl rfl))
   (ag (iD (ay le (am 1) (aq (aZ.m1 aX) (aq (aZ.m0 bx) (am 5) (aq (aZ.m1 fh) (am 8) (am 6))) af) (λ_ _=>rfl)) (D4 (am 3) (am 4) AN))
   (ah (bJ (eO PySem.F.plainAttrs_list PySem.F.slot_list_append PySem.F.type_list_append cg (am 7) (aa (eO PySem.F.plainAttrs_str PySem.F.slot_str_join PySem.F.type_str_join mX cT (aa (am 3) ad)) ad))))))
   (ah (aG (am 7))))))))))),?_⟩
  obtain⟨m,hm⟩:∃m:Nat,c%4=(m:Int):=⟨_,(JN (JL _ ⋯)).symm⟩;have m2:m<4:=by have:=JM c (b:=4) ⋯;omega
  walk_at "n";refine h1 _ _ ?_;walk_at "nc";refine h1 _ _ ?_;walk_at "nc";rw[hm];have en:(1+(m:Int)).toNat=1+m:=by omega
  rw[en];refine⟨⋯,⋯,?_⟩;have up26:∀x:Int,∃n:Nat,n<26/\x%26=(n:Int):=λx=>⟨(x%26).toNat,by have:=JM x (b:=26) ⋯;omega,by have:=JL x (b:=26) ⋯;omega⟩
  let fc:Nat->Nat:=λi=>65+(c/8/(1+7*(i:Int))%26).toNat
  refine fu (n:=1+m) (f:=λi=>some (V.str ⟨#[fc i]⟩)) (λσ=>∃x,σ=[x,some (.str "ABCDEFGHIJKLMNOPQRSTUVWXYZ"),some (.int (c/8))]) ⟨_,rfl⟩ ⋯ ?_ ?_
  ·rintro i hi σ H' N1 N0 ⟨y,rfl⟩ sm k1 k0
   walk_at "wp";obtain⟨n,h1,h2⟩:=up26 (c/8/(1+7*(i:Int)));refine⟨⋯,⋯,nofun,fc i,?_,k1 _ _ _ rfl sm ⟨_,rfl⟩⟩;show fC _ _=some (65+(c/8/(1+7*(i:Int))%26).toNat);rw[h2];exact aT (Bq n h1)
  ·intro H' sm l hl
   rw[kG];have e0:(List.range (1+m)).map (λi=>V.str ⟨#[fc i]⟩)=(((List.range (1+m)).map fc).map λc=>V.str ⟨#[c]⟩):=by rw[Jf];rfl
   rw[e0];have hcs:∀x∈(List.range (1+m)).map fc,Cv x=true:=λx hx=>by
    obtain⟨i,_,rfl⟩:=JG.mp hx;obtain⟨n,h1,h2⟩:=up26 (c/8/(1+7*(i:Int)));show Cv (65+(c/8/(1+7*(i:Int))%26).toNat)=true;rw[h2];exact vJ n h1
   have hcl:((List.range (1+m)).map fc).length=1+m:=by simp
   generalize(List.range (1+m)).map fc=cs at hcs hcl ⊢;refine h1 _ _ ?_;clear h1;have s1:az H (aC H' l (.lst (cs.map λc=>V.str ⟨#[c]⟩))):=sm.trans (ae hl);have e1:aC H' l (.lst (cs.map λc=>V.str ⟨#[c]⟩)) l=some (.lst (cs.map λc=>V.str ⟨#[c]⟩)):=ac;generalize aC H' l (.lst (cs.map λc=>V.str ⟨#[c]⟩))=H1 at s1 e1 ⊢;have fr:H l=none:=sm.free hl;walk_at "n";have lm:(cs.map λc=>V.str ⟨#[c]⟩).length=1+m:=by rw[IT,hcl]
   refine⟨_,aW.of e1,by rw[lm];omega,h1 _ _ ?_⟩;clear h1;rw[lm];obtain⟨k,hk⟩:∃k:Nat,c/8%((1+m:Nat):Int)=(k:Int):=⟨_,(JN (JL _ ⋯)).symm⟩;have hk2:k<1+m:=by have:=JM (c/8) (b:=((1+m:Nat):Int)) ⋯;omega
   rw[hk];walk_at "n";refine⟨rfl,_,aW.of e1,V.str ⟨#[cs[k]'⋯]⟩,aT (by rw[IV,IQ ⋯];rfl),_,rfl,λfi=>h1 _ _ ?_⟩;walk_at "nc";refine⟨.inr ⟨⋯,⋯⟩,h1 _ _ ?_⟩;clear h1;generalize(1+c/8/5%8)*(c/4%2)=st;walk_at "n";refine⟨ai nofun,λln hn=>h1 _ _ ?_⟩;clear h1;have hnl:l≠ln:=λe=>by rw[<- e,e1]at hn;cases hn
   have s2:az H (aC H1 ln (.lst [])):=s1.trans (ae hn);have e2:aC H1 ln (.lst []) l=some (.lst (cs.map λc=>V.str ⟨#[c]⟩)):=by rw[aj hnl];exact e1
   have e3:aC H1 ln (.lst []) ln=some (.lst (aD [])):=ac;have frn:H ln=none:=s1.free hn;generalize aC H1 ln (.lst [])=H2 at s2 e2 e3 ⊢;walk_at "n";refine⟨nofun,?_⟩;refine dJ (n:=4) (λi σ H'=>az H H'/\(∃ds:List Nat,H' l=some (.lst (ds.map λc=>V.str ⟨#[c]⟩))/\(∀x∈ds,Cv x=true)/\ds.length=1+m)/\(∃p:bC,H' ln=some (.lst (aD p))/\p.length=i/\∀r∈p,cA r=true)/\∃x,σ=[some (V.int c),some (V.str (Str.ofString "ABCDEFGHIJKLMNOPQRSTUVWXYZ")),some (V.int (c/8)),some (V.ref l),some (V.int k),some (V.int fi),some (V.int st),some (V.ref ln),x]) ⟨s2,⟨cs,e2,hcs,hcl⟩,⟨[],e3,rfl,λr hr=>nomatch hr⟩,_,rfl⟩ ?_ ?_
   ·rintro i σ H' hi ⟨sm',⟨ds,hds,dcap,dl⟩,⟨p,hp,pl,pn⟩,x,rfl⟩
    walk_at "wp";obtain⟨n,hn1,hn2⟩:=up26 (fi+(i:Int)*st);have nm:cA (ds.set k (65+n))=true:=by
     have hall:(ds.set k (65+n)).all (EK Dl)=true:=JH.mpr λx hx=>by
      rcases List.mem_or_eq_of_mem_set hx with h | h
      ·exact dcap x h
      ·rw[h];exact vJ n hn1
     unfold cA fV;rw[hall,JK,dl];simp;omega
    have es:(ds.map λc=>V.str ⟨#[c]⟩).set k (V.str ⟨#[65+n]⟩)=(ds.set k (65+n)).map λc=>V.str ⟨#[c]⟩:=by rw[List.map_set]
    refine⟨.inl ⟨⋯,⋯⟩,nofun,65+n,by rw[hn2];exact aT (Bq n hn1),_,hds,k,by rw[IT,dl];unfold BM;rw[if_pos ⋯,if_pos ⋯];simp,?_⟩;rw[es];have t1:aC H' l (.lst ((ds.set k (65+n)).map λc=>V.str ⟨#[c]⟩)) l=some (.lst ((ds.set k (65+n)).map λc=>V.str ⟨#[c]⟩)):=ac;have t2:aC H' l (.lst ((ds.set k (65+n)).map λc=>V.str ⟨#[c]⟩)) ln=some (.lst (aD p)):=by rw[aj (Ne.symm hnl)];exact hp
    have t3:az H (aC H' l (.lst ((ds.set k (65+n)).map λc=>V.str ⟨#[c]⟩))):=bL sm' fr;generalize aC H' l (.lst ((ds.set k (65+n)).map λc=>V.str ⟨#[c]⟩))=H3 at t1 t2 t3 ⊢;refine⟨.inl ⟨rfl,_,aW.of t2⟩,rfl,(ds.set k (65+n)).map λc=>(⟨#[c]⟩:Str),.inl (aW.of (by rw[t1,Jf];rfl)),?_,_,t2,?_,?_⟩
    ·have e1:((λy:Str=>y.length)∘λc=>(⟨#[c]⟩:Str))=λ_=>1:=by funext c;rfl
     have e0:(Str.ofString "").length=0:=rfl;rw[Jf,e1,List.map_const',List.sum_replicate_nat,IT,e0,JK];omega
    ·rw[av,pl];exact bp ⋯
    ·rw[fR]
     refine⟨bL t3 frn,⟨ds.set k (65+n),by rw[aj hnl];exact t1,λx hx=>?_,by rw[JK,dl]⟩,p++[ds.set k (65+n)],?_,by rw[Jn,pl];rfl,λr hr=>?_⟩
     ·rcases List.mem_or_eq_of_mem_set hx with h | h
      ·exact dcap x h
      ·rw[h];exact vJ n hn1
     ·rw[ac];unfold aD;rw[Jd];rfl
     ·rcases Je.mp hr with h | h
      ·exact pn r h
      ·rw[IU.mp h];exact nm
   ·rintro σ H' ⟨sm',_,⟨p,hp,pl,pn⟩,x,rfl⟩
    refine h1 _ _ ?_;walk_at "wp";exact q ln p H' frn hp pl pn sm'
theorem fo{H:Hp}{a b:Addr}{xs ys:List V}{Q:VK}(ha:H a=some (.tup xs))(hb:H b=some (.tup ys))(hx:xs≠[])(hy:ys≠[])(hz:xs.length+ys.length<=1000)(q:∀p,H p=none->Q (.ref p) (aC H p (.tup (xs++ys)))):Aq K (.ref a) (.ref b) H Q:=
 ⟨a,b,xs,ys,rfl,rfl,bc.of ha,bc.of hb,hx,ai ⋯,λe=>absurd e hy,λ_=>q⟩
noncomputable def dX(r:Nat×RV):List V:=match r.1 with
 |0=>[.str "cell",.str (tx r.2.n),.int r.2.c,.str (tx r.2.sg)]
 |1=>[.str "beside",.str (tx r.2.n),.int r.2.c,.str (tx r.2.o1),.str (tx r.2.o2)]
 |2=>[.str "above",.str (tx r.2.n),.int r.2.c,.str (tx r.2.o1),.str (tx r.2.o2)]
 |_=>[.str "turned",.str (tx r.2.n),.int r.2.c,.str (tx r.2.o1),.int r.2.t]
def bV(H:Hp)(l:Addr)(ts:JY)(rs:Yaa):Prop:=H l=some (.lst (ts.map V.ref))/\ts.length=rs.length/\∀(i:Nat) t r,ts[i]?=some t->rs[i]?=some r->H t=some (.tup (dX r))
theorem bV.up{H H':Hp}{l:Addr}{ts:JY}{rs:Yaa}(h:bV H l ts rs)(s:az H H'):bV H' l ts rs:=⟨s _ _ h.1,h.2.1,λi t r e1 e2=>s _ _ (h.2.2 i t r e1 e2)⟩
theorem Fh:V.str (Str.ofString "beside")≠V.str (Str.ofString "cell"):=λh=>absurd (V.str.inj h) (by decide +kernel)
theorem Fy:V.str (Str.ofString "above")≠V.str (Str.ofString "cell"):=λh=>absurd (V.str.inj h) (by decide +kernel)
theorem Fr:V.str (Str.ofString "turned")≠V.str (Str.ofString "cell"):=λh=>absurd (V.str.inj h) (by decide +kernel)
theorem FU:V.str (Str.ofString "above")≠V.str (Str.ofString "beside"):=λh=>absurd (V.str.inj h) (by decide +kernel)
theorem Gk:V.str (Str.ofString "turned")≠V.str (Str.ofString "beside"):=λh=>absurd (V.str.inj h) (by decide +kernel)
theorem GK:V.str (Str.ofString "turned")≠V.str (Str.ofString "above"):=λh=>absurd (V.str.inj h) (by decide +kernel)
theorem F0:V.str (Str.ofString "beside")≠V.str (Str.ofString "turned"):=λh=>absurd (V.str.inj h) (by decide +kernel)
theorem FT:V.str (Str.ofString "above")≠V.str (Str.ofString "turned"):=λh=>absurd (V.str.inj h) (by decide +kernel)
theorem iJ{k:Nat}(h:k<4):k=0\/k=1\/k=2\/k=3:=by omega
structure iw(r:Nat×RV):Prop where
 k4:r.1<4
 good:r.2.good
 small:r.2.small
noncomputable abbrev m_:Stmt:=eJ 56
inductive lz(R:RC)(vs:List V)(H:Hp)(Q:VK)(_E:XK):Prop
 |mk (t:Addr) (r:Nat×RV) (_:vs=[.ref t]) (_:H t=some (.tup (dX r))) (_:iw r) (_:∀b H',iu R H' r.1 b r.2->az H H'->Q (.ref b) H')
theorem yI:aE ["_law_told_here"] ["_law_told_here"] (ak m_):=by walk_at "c"
theorem xM{R:RC}{f CF:Addr}{fd:J0}(F:cF K "_law_rule_made" "_law_rule_made" m_ f fd)(nb:NB mg)(rk:oP K R)
  (zyb:oj P w K mg base (dz P w) 4 "CellRule" R.cc ["self","name","cost","sign"] (gI K CF)) (zZa:oj P w K mg base (dz P w) 4 "BesideRule" R.cb ["self","name","cost","one","other"] (cL K CF))
  (zgb:oj P w K mg base (dz P w) 4 "AboveRule" R.ca ["self","name","cost","one","other"] (cL K CF)) (zzb:oj P w K mg base (dz P w) 4 "TurnRule" R.ct ["self","name","cost","part","turning"] (gL K CF)):bb P w K mg base bD 6 f fd ["_law_told_here"] (lz R):=by
 have sc:=yI;walk_at "f"
 ·obtain⟨t,r,rfl,_⟩:=h;rfl
 ·obtain⟨t,⟨k,v⟩,rfl,ht,⟨hk,g,sm⟩,good⟩:=h
  refine⟨_,(ag (bd (aB cz (ay aA (am 0) af (λ_ _=>rfl)) cT (aI _))
   (ah (aG (j9 (CX:=dz P w) zyb (hr.mono nofun) rfl ck (aa (ay aA (am 0) af (λ_ _=>rfl)) (aa (ay aA (am 0) af (λ_ _=>rfl)) (aa (ay aA (am 0) af (λ_ _=>rfl)) ad))))))
   aL)
   (ag (bd (aB cz (ay aA (am 0) af (λ_ _=>rfl)) cT (aI _))
   (ah (aG (j9 (CX:=dz P w) zZa (hr.mono nofun) rfl ck (aa (ay aA (am 0) af (λ_ _=>rfl)) (aa (ay aA (am 0) af (λ_ _=>rfl)) (aa (ay aA (am 0) af (λ_ _=>rfl)) (aa (ay aA (am 0) af (λ_ _=>rfl)) ad)))))))
   aL)
   (ag (bd (aB cz (ay aA (am 0) af (λ_ _=>rfl)) cT (aI _))
   (ah (aG (j9 (CX:=dz P w) zgb (hr.mono nofun) rfl ck (aa (ay aA (am 0) af (λ_ _=>rfl)) (aa (ay aA (am 0) af (λ_ _=>rfl)) (aa (ay aA (am 0) af (λ_ _=>rfl)) (aa (ay aA (am 0) af (λ_ _=>rfl)) ad)))))))
   aL)
   (ah (aG (j9 (CX:=dz P w) zzb (hr.mono nofun) rfl ck (aa (ay aA (am 0) af (λ_ _=>rfl)) (aa (ay aA (am 0) af (λ_ _=>rfl)) (aa (ay aA (am 0) af (λ_ _=>rfl)) (aa (ay aA (am 0) af (λ_ _=>rfl)) ad)))))))))),?_⟩
  have sq:=bc.of (K:=K) ht;have g:v.good:=g;have sm:v.small:=g.small;have bn:v.n.length<=100000:=by have:=sm.n;omega
  have b1:v.o1.length<=100000:=by have:=sm.o1;omega
  have b2:v.o2.length<=100000:=by have:=sm.o2;omega
  have bs:v.sg.length<=100000:=by have:=sm.sg;omega
  walk_at "wp";rcases iJ hk with rfl | rfl | rfl | rfl
  ·change bc K H t [.str (Str.ofString "cell"),.str (tx v.n),.int v.c,.str (tx v.sg)]at sq
   refine⟨_,sq,_,rfl,rfl,?_⟩;rw[if_pos rfl];refine⟨_,sq,_,rfl,_,sq,_,rfl,_,sq,_,rfl,λx dx hx hd hne=>?_⟩;exact⟨x,R.cc,dx,v.n,v.sg,v.c,rfl,ac,rk.i0.cl,rk.a0,bn,bs,λok pl H' sx hpl hl' ha=>⟨rfl,good x H' ⟨dx,pl,ha,hl'⟩ (iP hx hd sx)⟩,λnok=>absurd (g.ok 0) nok⟩
  ·change bc K H t [.str (Str.ofString "beside"),.str (tx v.n),.int v.c,.str (tx v.o1),.str (tx v.o2)]at sq
   refine⟨_,sq,_,rfl,rfl,?_⟩;rw[if_neg Fh];refine⟨_,sq,_,rfl,rfl,?_⟩;rw[if_pos rfl];refine⟨_,sq,_,rfl,_,sq,_,rfl,_,sq,_,rfl,_,sq,_,rfl,λx dx hx hd hne=>?_⟩;exact⟨x,R.cb,dx,v.n,v.o1,v.o2,v.c,rfl,ac,rk.i1.cl,rk.a1,bn,b1,b2,λok pl H' sx hpl hl' ha=>⟨rfl,good x H' ⟨dx,pl,ha,hl'⟩ (iP hx hd sx)⟩,λnok=>absurd (g.ok 1) nok⟩
  ·change bc K H t [.str (Str.ofString "above"),.str (tx v.n),.int v.c,.str (tx v.o1),.str (tx v.o2)]at sq
   refine⟨_,sq,_,rfl,rfl,?_⟩;rw[if_neg Fy];refine⟨_,sq,_,rfl,rfl,?_⟩;rw[if_neg FU];refine⟨_,sq,_,rfl,rfl,?_⟩;rw[if_pos rfl];refine⟨_,sq,_,rfl,_,sq,_,rfl,_,sq,_,rfl,_,sq,_,rfl,λx dx hx hd hne=>?_⟩;exact⟨x,R.ca,dx,v.n,v.o1,v.o2,v.c,rfl,ac,rk.i2.cl,rk.a2,bn,b1,b2,λok pl H' sx hpl hl' ha=>⟨rfl,good x H' ⟨dx,pl,ha,hl'⟩ (iP hx hd sx)⟩,λnok=>absurd (g.ok 2) nok⟩
  ·change bc K H t [.str (Str.ofString "turned"),.str (tx v.n),.int v.c,.str (tx v.o1),.int v.t]at sq
   refine⟨_,sq,_,rfl,rfl,?_⟩;rw[if_neg Fr];refine⟨_,sq,_,rfl,rfl,?_⟩;rw[if_neg Gk];refine⟨_,sq,_,rfl,rfl,?_⟩;rw[if_neg GK];refine⟨_,sq,_,rfl,_,sq,_,rfl,_,sq,_,rfl,_,sq,_,rfl,λx dx hx hd hne=>?_⟩;exact⟨x,R.ct,dx,v.n,v.o1,v.c,v.t,rfl,ac,rk.i3.cl,rk.a3,bn,b1,λok pl H' sx hpl hl' ha=>⟨rfl,good x H' ⟨dx,pl,ha,hl'⟩ (iP hx hd sx)⟩,λnok=>absurd (g.ok 3) nok⟩
noncomputable abbrev kZ:Stmt:=eJ 54
inductive nY(vs:List V)(H:Hp)(Q:VK)(_E:XK):Prop
 |mk (t:Addr) (r:Nat×RV) (_:vs=[.ref t]) (_:H t=some (.tup (dX r))) (_:r.1<4) (_:bS H (aS r.1 r.2) Q)
theorem wE:aE ["_law_told_here"] ["_law_told_here"] (ak kZ):=by walk_at "c"
theorem v5{f:Addr}{fd:J0}(F:cF K "_law_parts" "_law_parts" kZ f fd)(nb:NB mg):bb P w K mg base bD 1 f fd ["_law_told_here"] nY:=by
 have sc:=wE;walk_at "f"
 ·obtain⟨t,r,rfl,_⟩:=h;rfl
 ·obtain⟨t,⟨k,v⟩,rfl,ht,hk,good⟩:=h
  refine⟨_,(ag (bd (aB cz (ay aA (am 0) af (λ_ _=>rfl)) cT (aI _))
   (ah (aG (bw ad)))
   aL)
   (ag (bd (aB cz (ay aA (am 0) af (λ_ _=>rfl)) cT (aI _))
   (ah (aG (bw (aa (ay aA (am 0) af (λ_ _=>rfl)) ad))))
   aL)
   (ah (aG (bw (aa (ay aA (am 0) af (λ_ _=>rfl)) (aa (ay aA (am 0) af (λ_ _=>rfl)) ad))))))),?_⟩
  have sq:=bc.of (K:=K) ht;walk_at "wp";have give:∀(ps:bC) (xs:List V),aD ps=xs->aS k v=ps->∀p,H p=none->Q (.ref p) (aC H p (.lst xs)):=λps xs e1 e2 p hp=>good p _ hp (by show aC H p _ p=some (.lst (aD (aS k v)));rw[ac,e2,e1]) (ae hp);rcases iJ hk with rfl | rfl | rfl | rfl
  ·change bc K H t [.str (Str.ofString "cell"),.str (tx v.n),.int v.c,.str (tx v.sg)]at sq
   refine⟨_,sq,_,rfl,rfl,?_⟩;rw[if_pos rfl];exact⟨Jp _,give [] [] rfl rfl⟩
  ·change bc K H t [.str (Str.ofString "beside"),.str (tx v.n),.int v.c,.str (tx v.o1),.str (tx v.o2)]at sq
   refine⟨_,sq,_,rfl,rfl,?_⟩;rw[if_neg Fh];refine⟨_,sq,_,rfl,rfl,?_⟩;rw[if_neg F0];exact⟨_,sq,_,rfl,_,sq,_,rfl,ai nofun,give [v.o1,v.o2] _ rfl rfl⟩
  ·change bc K H t [.str (Str.ofString "above"),.str (tx v.n),.int v.c,.str (tx v.o1),.str (tx v.o2)]at sq
   refine⟨_,sq,_,rfl,rfl,?_⟩;rw[if_neg Fy];refine⟨_,sq,_,rfl,rfl,?_⟩;rw[if_neg FT];exact⟨_,sq,_,rfl,_,sq,_,rfl,ai nofun,give [v.o1,v.o2] _ rfl rfl⟩
  ·change bc K H t [.str (Str.ofString "turned"),.str (tx v.n),.int v.c,.str (tx v.o1),.int v.t]at sq
   refine⟨_,sq,_,rfl,rfl,?_⟩;rw[if_neg Fr];refine⟨_,sq,_,rfl,rfl,?_⟩;rw[if_pos rfl];exact⟨_,sq,_,rfl,ai nofun,give [v.o1] _ rfl rfl⟩
structure gR(p:bC)(sg:JV)(r:Nat×RV):Prop where
 good:iw r
 n:r.2.n∈p
 o1:r.2.o1∈p
 o2:r.2.o2∈p
 sg:∃c∈sg,r.2.sg=[c]
theorem bV.app{H:Hp}{l t:Addr}{ts:JY}{rs:Yaa}{r:Nat×RV}(h:bV H l ts rs)(ht:H t=some (.tup (dX r))):bV (aC H l (.lst (ts.map V.ref++[V.ref t]))) l (ts++[t]) (rs++[r]):=by
 obtain⟨h1,h2,h3⟩:=h;refine⟨by rw[ac,Jd];rfl,by rw[Jn,Jn,h2];rfl,λi t' r' e1 e2=>?_⟩;have hold:∀t' r',H t'=some (.tup (dX r'))->aC H l (.lst (ts.map V.ref++[V.ref t])) t'=some (.tup (dX r')):=λt' r' e=>by
  rw[aj (λz=>by rw[z,h1]at e;cases e)];exact e
 by_cases hi:i<ts.length
 ·rw[Jm hi]at e1
  rw[Jm ⋯]at e2;exact hold _ _ (h3 i t' r' e1 e2)
 ·rw[Jl ⋯]at e1
  rw[Jl ⋯]at e2;have hi2:i=ts.length:=by
   have:=(IR.mp e1).1;simp at this;omega
  subst hi2;rw[Nat.sub_self]at e1;rw[h2,Nat.sub_self]at e2;cases e1;cases e2
  exact hold _ _ ht
theorem uP{r:JV}(h:cU r=true):fV r oz=true:=by
 unfold cU at h;simp only[Bool.and_eq_true,decide_eq_true_eq]at h;exact h.1.2
theorem CN{r:JV}{c:Nat}(h:cU r=true)(hc:c∈r):gU [c]=true:=by
 have:=uP h;unfold fV at this;rw[JH]at this;unfold gU fV;rw[List.all_cons,this c hc]
 rfl
noncomputable def cE(ks:J4)(z:Str):List Str:=if z∈ks then ks else ks++[z]
theorem qv(m:List (Str×List Nat))(z:Str):(bN m z).map (·.1)=cE (m.map (·.1)) z:=by
 unfold bN cE
 split
 ·rfl
 ·rw[Jd];rfl
theorem oQ:∀(zs:J4) (m:List (Str×List Nat)),(zs.foldl bN m).map (·.1)=zs.foldl cE (m.map (·.1))
 | [],_=>rfl
 |z::zs,m=>by rw[List.foldl_cons,List.foldl_cons,oQ zs,qv]
theorem y9(m:List (Str×List Nat))(i:Nat)(r:Nat×RV):(dR m i r).map (·.1)=(tx r.2.n::(aS r.1 r.2).map tx).foldl cE (m.map (·.1)):=by
 unfold dR;rw[oQ,gF,qv,List.foldl_cons]
theorem vz(ks:J4)(z:Str):(cE ks z).length<=ks.length+1:=by
 unfold cE;split
 ·omega
 ·simp
noncomputable def nM(z:Str)(rs:Yaa):List Nat:=rs.zipIdx.filterMap λx=>if tx x.1.2.n=z then some x.2 else none
theorem vC(z:Str)(rs:Yaa)(r:Nat×RV):nM z (rs++[r])=nM z rs++if tx r.2.n=z then[rs.length] else[]:=by
 unfold nM;rw[List.zipIdx_append,List.filterMap_append]
 congr 1
 simp
 split<;>rename_i h<;>simp[h]
theorem vm{z:Str}:∀{rs:Yaa},(∀r∈rs,tx r.2.n≠z)->nM z rs=[]:=by
 intro rs h;unfold nM;rw[List.filterMap_eq_nil_iff];intro x hx;rw[if_neg (h x.1 (List.fst_mem_of_mem_zipIdx hx))]
structure NI(rs:Yaa)(m:List (Str×List Nat)):Prop where
 nd:(m.map (·.1)).Nodup
 ix:∀q∈m,q.2=nM q.1 rs
 all:∀r∈rs,tx r.2.n∈m.map (·.1)
theorem nC{m:List (Str×List Nat)}{z y:Str}:y∈(bN m z).map (·.1)↔y∈m.map (·.1)\/y=z:=by
 unfold bN
 split
 ·rename_i h
  exact⟨λq=>.inl q,λq=>q.elim id λe=>e▸h⟩
 ·rw[Jd,Je];simp
theorem NI.name{rs:Yaa}{m:List (Str×List Nat)}(h:NI rs m)(z:Str):NI rs (bN m z):=by
 refine⟨kg h.nd,λq hq=>?_,λr hr=>nC.mpr (.inl (h.all r hr))⟩;unfold bN at hq
 split at hq
 ·exact h.ix q hq
 ·rename_i hz
  rcases Je.mp hq with q1 | q1
  ·exact h.ix q q1
  ·rw[IU.mp q1]
   exact(vm (z:=z) λr hr e=>hz (by rw[<- e];exact h.all r hr)).symm
theorem NI.names{rs:Yaa}:∀(zs:J4) {m:List (Str×List Nat)},NI rs m->NI rs (zs.foldl bN m)
 | [],_,h=>h
 |z::zs,m,h=>NI.names zs (h.name z)
theorem NI.put{rs:Yaa}{m:List (Str×List Nat)}{r:Nat×RV}(h:NI rs m)(hn:tx r.2.n∈m.map (·.1)):NI (rs++[r]) (gO m (tx r.2.n) rs.length):=by
 refine⟨by rw[gF];exact h.nd,λq hq=>?_,λr' hr'=>?_⟩
 ·unfold gO at hq
  obtain⟨p,hp,rfl⟩:=JG.mp hq;rw[vC]
  by_cases e:p.1=tx r.2.n
  ·rw[if_pos e]
   show p.2++[rs.length]=nM p.1 rs++_;rw[if_pos e.symm,h.ix p hp]
  ·rw[if_neg e,if_neg (λz=>e z.symm),Jz]
   exact h.ix p hp
 ·rw[gF]
  rcases Je.mp hr' with q | q
  ·exact h.all r' q
  ·rw[IU.mp q];exact hn
theorem qm(z:Str):∀(n:Nat) (rs:Yaa),rs.length=n->NI rs (b6 z rs)
 |0,rs,h=>by
  rw[JF.mp h];exact⟨by simp[b6,e7],λq hq=>by rw[show q=(z,[]) by simpa[b6,e7]using hq];rfl,λr hr=>nomatch hr⟩
 |n+1,rs,h=>by
  obtain⟨rs',r,rfl⟩:∃rs' r,rs=rs'++[r]:=⟨rs.dropLast,rs.getLast (by intro e;rw[e]at h;cases h),(List.dropLast_concat_getLast _).symm⟩;have hl:rs'.length=n:=by rw[Jn,List.length_singleton]at h;omega
  have ih:=qm z n rs' hl;unfold b6 at ih ⊢;rw[fB,Nat.zero_add];unfold dR;exact((ih.name (tx r.2.n)).put (nC.mpr (.inr rfl))).names _
theorem wa{R:RC}{H:Hp}{l:Addr}{ts:JY}{rs:Yaa}{Q:List V->Hp->Prop}(hR:bV H l ts rs)(hg:∀r∈rs,iw r)(hn:rs.length<=100)(q:∀(as:JY) H',az H H'->cP R H' as rs->Q (as.map V.ref) H') :
  f_ (AD K l) (gQ 0) ul (ml (lz R) [] E0 (hZ (yH 0) nN)) [none] H Q:=by
 obtain⟨hl,htl,hat⟩:=hR;refine lX (xs:=ts.map V.ref) (λi acc σ H'=>az H H'/\(∃as:List Addr,acc=as.map V.ref/\cP R H' as (rs.take i))/\i<=ts.length/\∃x,σ=[x]) ⟨az.refl _,⟨[],rfl,rfl,λi a r e=>by simp at e⟩,Jp _,_,rfl⟩ ?_ ?_ ?_ ?_ ?_
 ·rintro i acc σ H' ⟨_,⟨as,rfl,h,_⟩,hi,_⟩
  rw[IT,h,JC];exact bp ⋯
 ·rintro i acc σ H' ⟨_,_,h,_⟩
  rw[IT];exact h
 ·rintro i acc σ H' ⟨sm,_⟩
  exact aW.of (sm _ _ hl)
 ·rintro i x acc σ H' hx ⟨sm,⟨as,rfl,hA⟩,hi,y,rfl⟩
  have hlt:i<ts.length:=by have:=(IR.mp hx).1;rwa [IT]at this
  rw[IV,IQ hlt]at hx;cases hx;have hlr:i<rs.length:=by omega
  have hrr:rs[i]?=some rs[i]:=IQ hlr;have ht:=sm _ _ (hat i ts[i] rs[i] (IQ hlt) hrr);walk_at "wp";refine⟨ts[i],rs[i],rfl,ht,hg _ (I_ hlr),λb H2 hb s2=>⟨sm.trans s2,⟨as++[b],by rw[Jd];rfl,?_⟩,hlt⟩⟩;have hal:as.length=i:=by have:=hA.1;rw[JC]at this;omega
  rw[List.take_add_one,hrr];refine⟨by rw[Jn,Jn,hA.1];rfl,λj a r e1 e2=>?_⟩
  by_cases hj:j<as.length
  ·rw[Jm hj]at e1
   rw[Jm (by rw[<- hA.1];exact hj)]at e2;exact(hA.2 j a r e1 e2).up s2
  ·rw[Jl ⋯]at e1
   rw[Jl (by rw[<- hA.1];omega)]at e2;have:j-as.length=0:=by
    have:=(IR.mp e1).1;simp at this;omega
   rw[this]at e1;rw[<- hA.1,this]at e2;cases e1;cases e2
   exact hb
 ·rintro acc σ H' ⟨sm,⟨as,rfl,hA⟩,_⟩
  rw[IT,htl,JB]at hA;exact q as H' sm hA
noncomputable def Ey(rs:Yaa):List ThM.NR:=rs.map λr=>(tx r.2.n,(aS r.1 r.2).map tx)
theorem v2{ks:J4}{z y:Str}:y∈cE ks z↔y∈ks\/y=z:=ThM.mem_addNew
theorem kA{y:Str}:∀(zs ks:J4),y∈zs.foldl cE ks↔y∈ks\/y∈zs
 | [],ks=>by simp
 |z::zs,ks=>by
  rw[List.foldl_cons,kA zs,v2,Jg];exact⟨λh=>h.elim (λh=>h.elim .inl λe=>.inr (.inl e)) λh=>.inr (.inr h),λh=>h.elim (λh=>.inl (.inl h)) λh=>h.elim (λe=>.inl (.inr e)) .inr⟩
theorem kQ:∀(zs ks:J4),(zs.foldl cE ks).length<=ks.length+zs.length
 | [],ks=>Jo _
 |z::zs,ks=>by
  have h1:=kQ zs (cE ks z);have h2:=vz ks z;rw[List.foldl_cons,Jc];omega
theorem xC(z:Str)(rs:Yaa)(r:Nat×RV):(b6 z (rs++[r])).map (·.1)=(tx r.2.n::(aS r.1 r.2).map tx).foldl cE ((b6 z rs).map (·.1)):=by
 unfold b6;rw[fB,y9]
theorem Bu{α:Type}{P:List α->Prop}(h0:P [])(h1:∀rs r,P rs->P (rs++[r]))(rs:List α):P rs:=by
 have:∀(n:Nat) (rs:List α),rs.length=n->P rs:=by
  intro n
  induction n with
  |zero=>intro rs h;rw[JF.mp h];exact h0
  |succ n ih=>
   intro rs h;have hne:rs≠[]:=by intro e;rw[e]at h;cases h
   rw[<- List.dropLast_concat_getLast hne];exact h1 _ _ (ih _ (by rw[List.length_dropLast];omega))
 exact this _ rs rfl
theorem zL(z:Str)(rs:Yaa):∀y,y∈(b6 z rs).map (·.1)↔y=z\/∃r∈Ey rs,y=r.1\/y∈r.2:=by
 refine Bu (P:=λrs=>∀y,y∈(b6 z rs).map (·.1)↔y=z\/∃r∈Ey rs,y=r.1\/y∈r.2) ?_ ?_ rs
 ·intro y
  have e:(b6 z []).map (·.1)=[z]:=rfl;rw[e];unfold Ey;simp
 ·intro rs r ih y
  rw[xC,kA,ih y,Jg];unfold Ey;rw[Jd]
  constructor
  ·rintro((h | ⟨q,hq,h⟩) | h)
   ·exact .inl h
   ·exact .inr ⟨q,Je.mpr (.inl hq),h⟩
   ·exact .inr ⟨_,Je.mpr (.inr (IU.mpr rfl)),h⟩
  ·rintro(h | ⟨q,hq,h⟩)
   ·exact .inl (.inl h)
   ·rcases Je.mp hq with hq | hq
    ·exact .inl (.inr ⟨q,hq,h⟩)
    ·rw[IU.mp hq]at h
     exact .inr h
theorem Co{sg:JV}{c:Nat}(h:c∈sg):EX (tx sg) (tx [c])=true:=by
 have:=StrLaws.found_one (tx sg) c;show(!(Builtin.Str.occurrences (tx sg) ⟨#[c]⟩ 0 (tx sg).length 1).isEmpty)=true;rw[this,iI,decide_eq_true h]
theorem j8{sg:JV}:∀{rs:Yaa} {j:Nat},(∀r∈rs,∃c∈sg,r.2.sg=[c])->fz (tx sg) rs j=none
 | [],_,_=>rfl
 |r::rs,j,h=>by
  obtain⟨c,hc,e⟩:=h r List.mem_cons_self;unfold fz;rw[if_neg (λz=>by rw[e,Co hc]at z;exact absurd z.2 nofun)];exact j8 λr' hr'=>h r' (Jh _ hr')
theorem yi{p:bC}{sg st:JV}{rs:Yaa}(hsg:cU sg=true)(hst:st∈p)(hpn:∀r∈p,cA r=true)(hp:p.length<=8)(hn:rs.length<=24)(hr:∀r∈rs,gR p sg r):iB sg st rs=none:=by
 have h0:gJ sg st rs=none:=by
  unfold gJ;rw[if_neg (by rw[hsg];decide),if_neg (by rw[hpn _ hst];decide),if_neg ⋯,j8 λr h=>(hr r h).sg]
 unfold iB;rw[h0];simp only[];rw[if_neg];have hk:∀z∈(b6 (tx st) rs).map (·.1),z∈p.map tx:=λz hz=>by
  rcases(zL _ _ _).mp hz with e | ⟨q,hq,e⟩
  ·rw[e];exact List.mem_map_of_mem hst
  ·unfold Ey at hq
   obtain⟨r,hr',rfl⟩:=JG.mp hq;have R:=hr r hr';rcases e with e | e
   ·rw[e];exact List.mem_map_of_mem R.n
   ·obtain⟨y,hy,rfl⟩:=JG.mp e
    refine List.mem_map_of_mem ?_;obtain⟨k,v⟩:=r;rcases iJ R.good.k4 with rfl | rfl | rfl | rfl
    ·exact absurd hy List.not_mem_nil
    ·rcases(show y=v.o1\/y=v.o2 by simpa[aS]using hy) with rfl | rfl
     ·exact R.o1
     ·exact R.o2
    ·rcases(show y=v.o1\/y=v.o2 by simpa[aS]using hy) with rfl | rfl
     ·exact R.o1
     ·exact R.o2
    ·rw[show y=v.o1 by simpa[aS]using hy];exact R.o1
 have:=ThM.nd_len (qm (tx st) _ rs rfl).nd hk;rw[IT,IT]at this;omega
structure F8(K:W.Frag)(C:Addr):Prop where
 cl:k7 K C
 na:aN K C "signs"/\aN K C "start"/\aN K C "kept"/\aN K C "numbers"
noncomputable abbrev fj:Stmt:=eJ 57
inductive eH(vs:List V)(H:Hp)(Q:VK)(_E:XK):Prop
 |mk (c:Int) (b:Addr) (p:bC) (sg:JV) (_:vs=[.int c,.ref b,.str (tx sg)]) (_:H b=some (.lst (aD p))) (_:p.length=4) (_:(∀r∈p,cA r=true)) (_:cU sg=true) (_:∀t r H',gR p sg r->H' t=some (.tup (dX r))->((c%4=0->r.1=0)/\(c%4=1->r.1=3)/\(c%4≠0->c%4≠1->r.1=1\/r.1=2))->az H H'->Q (.ref t) H')
theorem mI:aE ["_law_cell_here","_law_names_here","_law_signs_here","_law_rest","_law_head","_law_parts_here"] ["_law_cell_here","_law_names_here","_law_signs_here"] (ak fj):=by walk_at "c"
theorem mB{f:Addr}{fd:J0}(F:cF K "_law_drawn_rule" "_law_drawn_rule" fj f fd)(nb:NB mg):bb P w K mg base bD 1 f fd ["_law_cell_here","_law_names_here","_law_signs_here"] eH:=by
 have sc:=mI;walk_at "f"
 ·obtain⟨c,b,p,sg,rfl,_⟩:=h;rfl
 ·obtain⟨c,b,p,sg,rfl,hb,hp,hpn,hsg,q⟩:=h
  refine⟨_,(ag (aM (i:=3) sc.nd rfl (Or.inl rfl) (aq (aZ.m1 bi) (am 0) af))
   (ag (aM (i:=4) sc.nd rfl (Or.inl rfl) (aP (aa (ay aV (am 1) (aq (aZ.m1 aX) (am 3) af) (λ_ _=>rfl)) (aa (aq (aZ.m0 bx) af (aq (aZ.m1 aX) (aq (aZ.m1 bi) (am 3) af) af)) ad))))
   (ag (aM (i:=5) sc.nd rfl (Or.inl rfl) (aP (aa (ay aV (am 1) (aq (aZ.m1 aX) (aq (aZ.m1 bi) (am 3) af) af) (λ_ _=>rfl)) (aa (ay aV (am 1) (aq (aZ.m1 aX) (aq (aZ.m1 bi) (am 3) af) af) (λ_ _=>rfl)) ad))))
   (ag (bd (aB cz (aq (aZ.m1 aX) (am 0) af) af (aI _))
   (ah (aG (aq b8 (aq b8 (aP (bg ad)) (am 4)) (aP (aa (ay le (am 2) (aq (aZ.m1 aX) (aq (aZ.m1 bi) (am 3) af) (au bf rfl nb.len aR (aa (am 2) ad))) (λ_ _=>rfl)) ad)))))
   aL)
   (ag (bd (aB cz (aq (aZ.m1 aX) (am 0) af) af (aI _))
   (ah (aG (aq b8 (aq b8 (aP (bg ad)) (am 4)) (aP (aa (ay aA (am 5) af (λ_ _=>rfl)) (aa (aq (aZ.m1 aX) (aq (aZ.m1 bi) (am 3) af) af) ad))))))
   aL)
   (ah (aG (aq b8 (aq b8 (aP (aa (ay aA (aP (bg (bg ad))) (aq (aZ.m1 aX) (am 0) af) (λ_ _=>rfl)) ad)) (am 4)) (am 5))))))))),?_⟩
  have hsl:=jI hsg;have lS:∀x:Int,∃z∈p,fC (aD p) (x%4)=some (V.str (tx z)):=λx=>by
   obtain⟨j,hj⟩:∃j:Nat,x%4=(j:Int):=⟨_,(JN (JL _ ⋯)).symm⟩;have:x%4<4:=JM _ ⋯;exact⟨p[j]'⋯,I_ _,by rw[hj];exact aT (bh ⋯)⟩
  have ybJ:∀x:Int,∃c∈sg,fC (tx sg).cps.toList (x%(sg.length:Int))=some c:=λx=>by
   rw[iI];exact DX (JL _ ⋯) (JM _ ⋯)
  have hsz:(tx sg).length<=sizeLine:=by rw[aH];exact ai ⋯
  walk_at "n";refine h1 _ _ ?_;walk_at "nc";obtain⟨z1,hz1,p1⟩:=lS (c/4);refine⟨_,aW.of hb,_,p1,ai nofun,λth hth=>h1 _ _ ?_⟩;clear h1;have s1:az H (aC H th (.tup [V.str (tx z1),V.int (1+c/4/4%9)])):=ae hth;have e1:aC H th (.tup [V.str (tx z1),V.int (1+c/4/4%9)]) th=some (.tup [V.str (tx z1),V.int (1+c/4/4%9)]):=ac;generalize aC H th (.tup [V.str (tx z1),V.int (1+c/4/4%9)])=H1 at s1 e1 ⊢;walk_at "n";obtain⟨z2,hz2,p2⟩:=lS (c/4/36);obtain⟨z3,hz3,p3⟩:=lS (c/4/144);refine⟨_,aW.of (s1 _ _ hb),_,p2,_,aW.of (s1 _ _ hb),_,p3,ai nofun,λtp htp=>h1 _ _ ?_⟩;clear h1;have s2:az H1 (aC H1 tp (.tup [V.str (tx z2),V.str (tx z3)])):=ae htp;have e2:aC H1 tp (.tup [V.str (tx z2),V.str (tx z3)]) tp=some (.tup [V.str (tx z2),V.str (tx z3)]):=ac;generalize aC H1 tp (.tup [V.str (tx z2),V.str (tx z3)])=H2 at s2 e2 ⊢;have e1':=s2 _ _ e1;have sm:=s1.trans s2;clear s1 s2 e1;obtain⟨ch,hch,pc⟩:=ybJ (c/4/36);have t0:0<=c/4/144%8:=JL _ ⋯;have t7:c/4/144%8<8:=JM _ ⋯;have c0:0<=c/4/4%9:=JL _ ⋯;have c9:c/4/4%9<9:=JM _ ⋯;have gd:∀k,k<4->gR p sg (k,⟨z1,1+c/4/4%9,z2,z3,[ch],c/4/144%8⟩):=λk hk=>by
   have g:RV.good ⟨z1,1+c/4/4%9,z2,z3,[ch],c/4/144%8⟩:=⟨hpn _ hz1,by show 1<=1+c/4/4%9;omega,by show 1+c/4/4%9<=9;omega,hpn _ hz2,hpn _ hz3,CN hsg hch,t0,by show c/4/144%8<=7;omega⟩;exact⟨⟨hk,g,g.small⟩,hz1,hz2,hz3,ch,hch,rfl⟩
  walk_at "wp"
  by_cases k0:c%4=0
  ·rw[if_pos k0]
   refine⟨ai nofun,λp1 hp1=>?_⟩;refine fo ac (ae hp1 _ _ e1') (by simp) (by simp) (by simp) λp2 hp2=>?_;walk_at "wp";refine⟨hsz,by rw[aH];omega,hsz,ch,by rw[aH];exact pc,ai nofun,λp3 hp3=>?_⟩;refine fo (ae hp3 _ _ ac) ac (by simp) (by simp) (by simp) λp4 hp4=>?_;refine q p4 (0,⟨z1,1+c/4/4%9,z2,z3,[ch],c/4/144%8⟩) _ (gd 0 nofun) ac ⟨λ_=>rfl,λh=>absurd (k0.symm.trans h) nofun,λh=>absurd k0 h⟩ (((sm.trans (ae hp1)).trans (ae hp2)).trans ((ae hp3).trans (ae hp4)))
  ·rw[if_neg k0]
   by_cases k1:c%4=1
   ·rw[if_pos k1]
    refine⟨ai nofun,λp1 hp1=>?_⟩;refine fo ac (ae hp1 _ _ e1') (by simp) (by simp) (by simp) λp2 hp2=>?_;walk_at "wp";refine⟨_,bc.of (ae hp2 _ _ (ae hp1 _ _ e2)),_,rfl,ai nofun,λp3 hp3=>?_⟩;refine fo (ae hp3 _ _ ac) ac (by simp) (by simp) (by simp) λp4 hp4=>?_;refine q p4 (3,⟨z1,1+c/4/4%9,z2,z3,[ch],c/4/144%8⟩) _ (gd 3 nofun) ac ⟨λh=>absurd h k0,λ_=>rfl,λ_ h=>absurd k1 h⟩ (((sm.trans (ae hp1)).trans (ae hp2)).trans ((ae hp3).trans (ae hp4)))
   ·rw[if_neg k1]
    have two:c%2=0\/c%2=1:=by omega
    refine⟨ai nofun,λp1 hp1=>?_⟩;rcases two with h2 | h2
    ·rw[h2]
     refine⟨_,bc.of ac,_,rfl,ai nofun,λp2 hp2=>?_⟩;refine fo ac (ae hp2 _ _ (ae hp1 _ _ e1')) (by simp) (by simp) (by simp) λp3 hp3=>?_;refine fo ac (ae hp3 _ _ (ae hp2 _ _ (ae hp1 _ _ e2))) (by simp) (by simp) (by simp) λp4 hp4=>?_;exact q p4 (1,⟨z1,1+c/4/4%9,z2,z3,[ch],c/4/144%8⟩) _ (gd 1 nofun) ac ⟨λh=>absurd h k0,λh=>absurd h k1,λ_ _=>.inl rfl⟩ (((sm.trans (ae hp1)).trans (ae hp2)).trans ((ae hp3).trans (ae hp4)))
    ·rw[h2]
     refine⟨_,bc.of ac,_,rfl,ai nofun,λp2 hp2=>?_⟩;refine fo ac (ae hp2 _ _ (ae hp1 _ _ e1')) (by simp) (by simp) (by simp) λp3 hp3=>?_;refine fo ac (ae hp3 _ _ (ae hp2 _ _ (ae hp1 _ _ e2))) (by simp) (by simp) (by simp) λp4 hp4=>?_;exact q p4 (2,⟨z1,1+c/4/4%9,z2,z3,[ch],c/4/144%8⟩) _ (gd 2 nofun) ac ⟨λh=>absurd h k0,λh=>absurd h k1,λ_ _=>.inr rfl⟩ (((sm.trans (ae hp1)).trans (ae hp2)).trans ((ae hp3).trans (ae hp4)))
noncomputable abbrev ib:Stmt:=eJ 51
inductive ka(K:W.Frag)(vs:List V)(H:Hp)(Q:VK)(_E:XK):Prop
 |mk (a:Addr) (p:bC) (r c:Nat) (_:vs=[.ref a]) (_:aW K H a (aD p)) (_:eG p r c) (_:0<r) (_:r<=64) (_:c<=64) (_:bS H (eX p) Q)
theorem rX:aE ["_law_rows","_law_last"] ["_law_rows"] (ak ib):=by walk_at "c"
theorem qV{f:Addr}{fd:J0}(F:cF K "_law_quarter" "_law_quarter" ib f fd)(nb:NB mg):bb P w K mg base bD 1 f fd ["_law_rows"] (ka K):=by
 have sc:=rX;walk_at "f"
 ·obtain⟨a,p,r,c,rfl,_⟩:=h;rfl
 ·obtain⟨a,p,r,c,rfl,hS,hp,hr0,hr1,hc1,q⟩:=h
  refine⟨_,(ag (aM (i:=1) sc.nd rfl (Or.inr rfl) (aq (aZ.m0 fJ) (au aQ rfl nb.len aR (aa (am 0) ad)) af))
   (ah (aG (bO ["_law_i"] [0,1] rfl (bu.of (by kernel_rfl)) (by kernel_rfl) (bW rfl nb.range (aa (au bf rfl nb.len aR (aa (ay aV (am 0) af (λ_ _=>rfl)) ad)) ad))
    (λ_ _ _ _=>(aF (i:=0) (by show(["_law_i","_law_rows","_law_last"]:List Str).Nodup;decide +kernel) rfl (Or.inr rfl))) (λ_ _ _ _=>bF) (λ_ _ _ _=>(D' (K:=K) rfl PySem.F.plainAttrs_str PySem.F.slot_str_join PySem.F.type_str_join (AG (K:=K) rfl) cT (aa (bO ["_law_j"] [1,2,0] rfl (bu.of (by kernel_rfl)) (by kernel_rfl) (bW rfl nb.range (aa (au (vH (K:=K) rfl) rfl nb.len aR (aa (am 1) ad)) ad))
    (λ_ _ _ _=>(aF (i:=0) (by show(["_law_j","_law_rows","_law_last","_law_i"]:List Str).Nodup;decide +kernel) rfl (Or.inl rfl))) (λ_ _ _ _=>bF) (λ_ _ _ _=>(ay le (ay (m6 (K:=K) rfl) (am 1) (aq (aZ.m0 fJ) (am 2) (am 0)) (λ_ _=>rfl)) (am 3) (λ_ _=>rfl)))) ad))))))),?_⟩
  have hl0:0<p.length:=by rw[hp.1];exact hr0
  have hc0:(p[0]).length=c:=hp.2 _ (I_ hl0);have hpl:p.length=r:=hp.1;walk_at "n";refine⟨_,hS,h1 _ _ ?_⟩;clear h1;rw[av];walk_at "wp";have h0:fC (aD p) 0=some (V.str (tx p[0])):=(show fC _ ((0:Nat):Int)=_ from aT (bh hl0));refine⟨_,hS,_,h0,_,rfl,by rw[aH];exact ai ⋯,by rw[aH];omega,by rw[aH];omega,?_⟩;rw[aH,hc0,Ja];refine gv (lo:=0) (n:=c) (λi acc σ H'=>az H H'/\acc=aD ((List.range i).map (col p))/\i<=c/\∃x,σ=[x,some (.ref a),some (.int ((p.length:Int)-1))]) ⟨az.refl _,rfl,Jp _,_,rfl⟩ ?_ ?_ ?_ ?_
  ·rintro i acc σ H' ⟨_,rfl,_⟩
   rw[av,IT,List.length_range];exact bp ⋯
  ·rintro i acc σ H' ⟨_,_,h,_⟩
   exact h
  ·rintro i acc σ H' hi ⟨sm,rfl,_,y,rfl⟩
   walk_at "wp";have hS':=sm.seq hS;have hpl2:((aD p).length:Int)=(p.length:Int):=by rw[av]
   refine⟨rfl,_,hS',by rw[hpl2];omega,by rw[hpl2];omega,?_⟩;rw[hpl2,Ja];refine fu (n:=p.length) (f:=λj=>some (V.str ⟨#[(p.reverse.getD j []).getD i 0]⟩)) (λσ=>∃x,σ=[x,some (.ref a),some (.int ((p.length:Int)-1)),some (.int (i:Int))]) ⟨_,rfl⟩ ⋯ ?_ ?_
   ·rintro j hj σ H2 M1 M0 ⟨y,rfl⟩ sm2 k1 k0
    walk_at "wp";have ej:(p.length:Int)-1-(j:Int)=((p.length-1-j:Nat):Int):=by omega
    have hx:p.length-1-j<p.length:=by omega
    have erev:p.reverse.getD j []=p[p.length-1-j]:=by rw[List.getD_eq_getElem?_getD,List.getElem?_reverse hj,IQ hx];rfl
    have hrow:(p[p.length-1-j]).length=c:=hp.2 _ (I_ hx);refine⟨_,sm2.seq hS',V.str (tx p[p.length-1-j]),by rw[ej];exact aT (bh hx),_,rfl,by rw[aH];exact ai ⋯,(p[p.length-1-j]).getD i 0,?_,k1 _ _ _ (by rw[erev]) sm2 ⟨_,rfl⟩⟩;refine aT ?_;rw[iI,List.getD_eq_getElem?_getD,IQ ⋯]
    rfl
   ·intro H2 sm2 l hl
    rw[kG];have ec:(List.range p.length).map (λj=>V.str ⟨#[(p.reverse.getD j []).getD i 0]⟩)=((col p i).map λc=>(⟨#[c]⟩:Str)).map V.str:=by
     unfold col;rw[Jf,Jf];apply List.ext_getElem?;intro j;rw[IV,IV]
     by_cases hj:j<p.length
     ·rw[List.getElem?_range hj,IQ (by rw[Ji];exact hj),Option.map_some,Option.map_some]
      show some (V.str ⟨#[(p.reverse.getD j []).getD i 0]⟩)=some (V.str ⟨#[(p.reverse[j]'(by rw[Ji];exact hj)).getD i 0]⟩);rw[List.getD_eq_getElem?_getD (l:=p.reverse),IQ (by rw[Ji];exact hj),Option.getD_some]
     ·rw[List.getElem?_eq_none (by rw[List.length_range];omega),List.getElem?_eq_none (by rw[Ji];omega)];rfl
    rw[ec];refine⟨_,.inl (aW.of ac),?_,(sm.trans sm2).trans (ae hl),?_,hi⟩
    ·rw[Jf]
     have e:((λy:Str=>y.length)∘λc=>(⟨#[c]⟩:Str))=λ_=>1:=by funext c;rfl
     have e0:(Str.ofString "").length=0:=rfl;rw[e,List.map_const',List.sum_replicate_nat,IT,e0];unfold col;rw[IT,Ji];omega
    ·rw[fR,List.range_succ,Jd]
     exact(eY _ _).symm
  ·rintro acc σ H' ⟨sm,rfl,_⟩ l hl
   refine q l _ (sm.free hl) ?_ (sm.trans (ae hl));rw[ac];unfold eX;rw[bQ hp hr0]
noncomputable abbrev jv:Stmt:=eJ 52
inductive mj(K:W.Frag)(vs:List V)(H:Hp)(Q:VK)(_E:XK):Prop
 |mk (a:Addr) (p:bC) (r c t:Nat) (_:vs=[.ref a,.int (t:Int)]) (_:H a=some (.lst (aD p))) (_:eG p r c) (_:0<r) (_:0<c) (_:r<=64) (_:c<=64) (_:t<8) (_:∀l H',H' l=some (.lst (aD (turned p t)))->az H H'->Q (.ref l) H')
theorem uR:aE ["_law_rows","_law_t","_law_step"] ["_law_rows","_law_t"] (ak jv):=by walk_at "c"
theorem uL{f:Addr}{fd:J0}(F:cF K "_law_turned" "_law_turned" jv f fd)(nb:NB mg)(zAb:cY P w K mg base bD 1 "_law_quarter" ["_law_rows"] (ka K)):bb P w K mg base bD 2 f fd ["_law_rows","_law_t"] (mj K):=by
 have sc:=uR;walk_at "f"
 ·obtain⟨a,p,r,c,t,rfl,_⟩:=h;rfl
 ·obtain⟨a,p,r,c,t,rfl,hS,hp,hr0,hc0,hr1,hc1,ht,q⟩:=h
  refine⟨_,(ag (bd (aB (aZ.m0 gW) (am 1) af (aI _))
   (ah (nr (i:=0) ["_law_row"] [] sc.nd rfl (Or.inl rfl) rfl  rfl (bu.of (by kernel_rfl)) (by kernel_rfl) (c8 (am 0))
    (λ_ _ _ _=>(aF (i:=0) (by show(["_law_row"]:List Str).Nodup;decide +kernel) rfl (Or.inl rfl))) (λ_ _ _ _=>bF) (λ_ _ _ _=>(CK (am 0) (tL nJ af)))))
   aL)
   (ag (bK PassesOwn.never rfl (bW rfl nb.range (aa (aq (aZ.m1 aX) (am 1) af) ad)) (aF (i:=2) sc.nd rfl (Or.inl rfl))
   (ah (aM (i:=0) sc.nd rfl (Or.inl rfl) (aO zAb (hr.mono nofun) rfl ba (aa (am 0) ad)))))
   (ah (aG (am 0))))),?_⟩
  refine ao λN2 h2=>?_;have loop:∀(l2:Addr) (p':bC) (H2:Hp) (y:Option V),H2 l2=some (.lst (aD p'))->az H H2->eG p' r c->turned p t=bA (t%4) p'->N2 [some (V.ref l2),some (V.int t),y] H2:=by
   intro l2 p' H2 y hH2 sm2 hp' et;refine h2 _ _ ?_;clear h2;refine ao λN3 h3=>?_;walk_at "wp";refine⟨⋯,⋯,?_⟩;have e4:((t:Int)%4).toNat=t%4:=by omega
   rw[e4];refine dJ (lo:=0) (n:=t%4) (λi σ H3=>∃(l3:Addr) (x:Option V),σ=[some (V.ref l3),some (V.int t),x]/\H3 l3=some (.lst (aD (bA i p')))/\az H H3) ⟨l2,_,rfl,hH2,sm2⟩ ?_ ?_
   ·rintro i σ H3 hi ⟨l3,x,rfl,h4,sm3⟩
    walk_at "wp";have hq:=dU i hp' hr0 hc0;have gp2:∃r' c',eG (bA i p') r' c'/\0<r'/\r'<=64/\c'<=64:=by
     by_cases hi2:i%2=0
     ·rw[if_pos hi2,if_pos hi2]at hq;exact⟨r,c,hq,hr0,hr1,hc1⟩
     ·rw[if_neg hi2,if_neg hi2]at hq;exact⟨c,r,hq,hc0,hc1,hr1⟩
    obtain⟨r',c',g3,g4,g5,g6⟩:=gp2;refine⟨l3,_,r',c',rfl,aW.of h4,g3,g4,g5,g6,λl4 H4 h8 h9 sm4=>?_⟩;exact⟨l4,rfl,by rw[<- kz 1 i p'];exact h9,sm3.trans sm4⟩
   ·rintro σ H3 ⟨l3,x,rfl,h4,sm3⟩
    refine h3 _ _ ?_;walk_at "wp";exact q l3 H3 (by rw[et];exact h4) sm3
  walk_at "wp";have hpl:p.length=r:=hp.1
  split
  ·rename_i h4
   refine⟨⟨_,aW.of hS⟩,?_⟩;refine jn (as:=p) (emb:=λx=>V.str (tx x)) (f:=λx=>some (V.str (tx x.reverse))) (λσ=>∃x,σ=[x]) ⟨_,rfl⟩ (λH' sm=>aW.of (sm _ _ hS)) ⋯ ?_ ?_
   ·rintro i x hx σ H' M1 M0 ⟨y,rfl⟩ sm k1 k0
    walk_at "wp";have hxl:x.length=c:=hp.2 x (IW hx);exact⟨x,rfl,⋯,k1 _ _ _ rfl sm ⟨_,rfl⟩⟩
   ·intro H' sm l hl
    rw[kG];have em:p.map (λx=>V.str (tx x.reverse))=aD (eD p):=by unfold aD eD;rw[Jf];rfl
    rw[em];refine loop l (eD p) _ _ ac (sm.trans (ae hl)) (il hp) ?_;unfold turned;rw[if_pos ⋯]
  ·rename_i h4
   refine loop a p H _ hS (az.refl _) hp ?_;unfold turned;rw[if_neg ⋯]
theorem D9(r s:JV):tx r++tx s=tx (r++s):=by
 show(⟨_++_⟩:Str)=⟨_⟩;simp[tx]
noncomputable abbrev rn:Stmt:=eJ 55
inductive kP(vs:List V)(H:Hp)(Q:VK)(_E:XK):Prop
 |mk (t lp:Addr) (r:Nat×RV) (as:JY) (ps:List bC) (_:vs=[.ref t,.ref lp]) (_:H t=some (.tup (dX r))) (_:r.1<4) (_:0<=r.2.t) (_:r.2.t<=7) (_:m8 H lp as ps) (_:ly r.1 ps) (_:(∀p,dF r.1 r.2 ps=some p->∀l H',H' l=some (.lst (aD p))->az H H'->Q (.ref l) H')) (_:(dF r.1 r.2 ps=none->∀H',az H H'->Q .non H'))
theorem zu:aE ["_law_told_here","_law_pictures","_law_one","_law_other"] ["_law_told_here","_law_pictures"] (ak rn):=by walk_at "c"
theorem zq{f:Addr}{fd:J0}(F:cF K "_law_put" "_law_put" rn f fd)(nb:NB mg)(zXb:cY P w K mg base bD 2 "_law_turned" ["_law_rows","_law_t"] (mj K)):bb P w K mg base bD 3 f fd ["_law_told_here","_law_pictures"] kP:=by
 have sc:=zu;walk_at "f"
 ·obtain⟨t,lp,r,as,ps,rfl,_⟩:=h;rfl
 ·obtain⟨t,lp,⟨k,v⟩,as,ps,rfl,ht,hk,ht0,ht7,⟨hlp,hal,hat⟩,hfit,good,bad⟩:=h
  refine⟨_,(ag (bd (aB cz (ay aA (am 0) af (λ_ _=>rfl)) cT (aI _))
   (ah (aG (bw (aa (ay aA (am 0) af (λ_ _=>rfl)) ad))))
   aL)
   (ag (bd (aB cz (ay aA (am 0) af (λ_ _=>rfl)) cT (aI _))
   (ah (aG (aO zXb (hr.mono nofun) rfl ba (aa (ay aV (am 1) af (λ_ _=>rfl)) (aa (ay aA (am 0) af (λ_ _=>rfl)) ad)))))
   aL)
   (ag (iD (am 1) (B1 (n:=2) rfl (a_ (aF (i:=2) sc.nd rfl (Or.inr rfl)) (a_ (aF (i:=3) sc.nd rfl (Or.inr rfl)) cM))))
   (ag (bd (aB cz (ay aA (am 0) af (λ_ _=>rfl)) cT (aI _))
   (ag (bd (PW.pt (fU (aB jb (au aQ rfl nb.len aR (aa (am 2) ad)) (au aQ rfl nb.len aR (aa (am 3) ad)) (aI _)) (d9 (aB (aZ.m0 gW) (aq (aZ.m0 bx) (au bf rfl nb.len aR (aa (ay aV (am 2) af (λ_ _=>rfl)) ad)) (au bf rfl nb.len aR (aa (ay aV (am 3) af (λ_ _=>rfl)) ad))) af (aI _)))))
   (ah (aG bU))
   aL)
   (ah (aG (bO ["_law_k"] [2,3] rfl (bu.of (by kernel_rfl)) (by kernel_rfl) (bW rfl nb.range (aa (au aQ rfl nb.len aR (aa (am 2) ad)) ad))
    (λ_ _ _ _=>(aF (i:=0) (by show(["_law_k","_law_one","_law_other"]:List Str).Nodup;decide +kernel) rfl (Or.inl rfl))) (λ_ _ _ _=>bF) (λ_ _ _ _=>(aq m4 (ay (m6 (K:=K) rfl) (am 1) (am 0) (λ_ _=>rfl)) (ay (m6 (K:=K) rfl) (am 2) (am 0) (λ_ _=>rfl))))))))
   aL)
   (ag (bd (PW.pt (fU (aB jb (au bf rfl nb.len aR (aa (ay aV (am 2) af (λ_ _=>rfl)) ad)) (au bf rfl nb.len aR (aa (ay aV (am 3) af (λ_ _=>rfl)) ad)) (aI _)) (d9 (aB (aZ.m0 gW) (aq (aZ.m0 bx) (au aQ rfl nb.len aR (aa (am 2) ad)) (au aQ rfl nb.len aR (aa (am 3) ad))) af (aI _)))))
   (ah (aG bU))
   aL)
   (ah (aG (aq rO (am 2) (am 3))))))))),?_⟩
  have sq:=bc.of (K:=K) ht;have hfit:ly k ps:=hfit;have ht0:0<=v.t:=ht0;have ht7:v.t<=7:=ht7;walk_at "wp";cases hfit with
  |cell=>
   change bc K H t [.str (Str.ofString "cell"),.str (tx v.n),.int v.c,.str (tx v.sg)]at sq;refine⟨_,sq,_,rfl,rfl,?_⟩;rw[if_pos rfl];exact⟨_,sq,_,rfl,ai nofun,λp hp=>good [v.sg] rfl p _ (by rw[ac];rfl) (ae hp)⟩
  | @turn p r c hp=>
   obtain⟨a1,rfl⟩:∃a1,as=[a1]:=by match as,hal with | [a1],_=>exact⟨a1,rfl⟩
   have e1:H a1=some (.lst (aD p)):=hat 0 (by simp) (by simp);change bc K H t [.str (Str.ofString "turned"),.str (tx v.n),.int v.c,.str (tx v.o1),.int v.t]at sq;refine⟨_,sq,_,rfl,rfl,?_⟩;rw[if_neg Fr];refine⟨_,sq,_,rfl,rfl,?_⟩;rw[if_pos rfl];have h0:fC ([V.ref a1]:List V) 0=some (V.ref a1):=rfl;obtain⟨tn,htn⟩:∃tn:Nat,v.t=(tn:Int):=⟨v.t.toNat,⋯⟩;refine⟨_,aW.of hlp,_,h0,_,sq,_,rfl,?_⟩;have hpl:=hp.r0;refine⟨a1,p,r,c,tn,by rw[htn],e1,hp.rc,hp.r0,hp.c0,by have:=hp.r6;omega,by have:=hp.c6;omega,⋯,λl H' hl sm=>good _ ?_ l H' hl sm⟩;show some (turned p v.t.toNat)=some (turned p tn);rw[htn];rfl
  | @beside p q' r c r' c' hp hq=>
   obtain⟨a1,a2,rfl⟩:∃a1 a2,as=[a1,a2]:=by match as,hal with | [a1,a2],_=>exact⟨a1,a2,rfl⟩
   have e1:H a1=some (.lst (aD p)):=hat 0 (by simp) (by simp);have e2:H a2=some (.lst (aD q')):=hat 1 (by simp) (by simp);change bc K H t [.str (Str.ofString "beside"),.str (tx v.n),.int v.c,.str (tx v.o1),.str (tx v.o2)]at sq;refine⟨_,sq,_,rfl,rfl,?_⟩;rw[if_neg Fh];refine⟨_,sq,_,rfl,rfl,?_⟩;rw[if_neg F0];refine⟨_,aW.of hlp,rfl,_,_,rfl,_,_,rfl,rfl,_,sq,_,rfl,rfl,?_⟩;rw[if_pos rfl];have hl1:p.length=r:=hp.rc.1;have hl2:q'.length=r':=hq.rc.1;have hh1:=bQ hp.rc hp.r0;have hh2:=bQ hq.rc hq.r0;have h1:((aD p).length:Int)=(r:Int):=by rw[av,hl1]
   have h2:((aD q').length:Int)=(r':Int):=by rw[av,hl2]
   have p0:0<p.length:=by rw[hl1];exact hp.r0
   have q0:0<q'.length:=by rw[hl2];exact hq.r0
   have c1:(p[0]).length=c:=hp.rc.2 _ (I_ p0);have c2:(q'[0]).length=c':=hq.rc.2 _ (I_ q0);have b1:=hp.r6;have b2:=hp.c6;have b3:=hq.r6;have b4:=hq.c6
   refine⟨a1,rfl,_,aW.of e1,a2,rfl,_,aW.of e2,?_⟩;rw[h1,h2]
   by_cases er:r=r'
   ·rw[if_neg ⋯]
    have z1:fC (aD p) 0=some (V.str (tx p[0])):=(show fC _ ((0:Nat):Int)=_ from aT (bh p0));have z2:fC (aD q') 0=some (V.str (tx q'[0])):=(show fC _ ((0:Nat):Int)=_ from aT (bh q0));refine⟨a1,rfl,_,aW.of e1,_,z1,_,rfl,by rw[aH];exact ai ⋯,a2,rfl,_,aW.of e2,_,z2,_,rfl,by rw[aH];exact ai ⋯,?_⟩;rw[aH,aH,c1,c2];have mk:(p.length=q'.length/\(p.headD []).length+(q'.headD []).length<=6)↔c+c'<=6:=by rw[hl1,hl2,hh1,hh2];exact⟨λh=>h.2,λh=>⟨er,h⟩⟩
    by_cases ec:6<(c:Int)+(c':Int)
    ·rw[if_pos ec]
     refine bad ?_ H (az.refl _);show(if _ then _ else _)=_;rw[if_neg (λh=>by have:=mk.mp h;omega)]
    ·rw[if_neg ec]
     refine⟨a1,rfl,_,aW.of e1,by rw[h1];omega,by rw[h1];omega,?_⟩;rw[h1,Ja];refine fu (n:=r) (f:=λk=>some (V.str (tx (p.getD k []++q'.getD k [])))) (λσ=>∃x,σ=[x,some (.ref a1),some (.ref a2)]) ⟨_,rfl⟩ ⋯ ?_ ?_
     ·rintro k hk σ H2 M1 M0 ⟨y,rfl⟩ sm k1 k0
      walk_at "wp";have kp:k<p.length:=by omega
      have kq:k<q'.length:=by omega
      have g1:p.getD k []=p[k]:=by rw[List.getD_eq_getElem?_getD,IQ kp];rfl
      have g2:q'.getD k []=q'[k]:=by rw[List.getD_eq_getElem?_getD,IQ kq];rfl
      have w1:(p[k]).length=c:=hp.rc.2 _ (I_ kp);have w2:(q'[k]).length=c':=hq.rc.2 _ (I_ kq);refine⟨_,aW.of (sm _ _ e1),_,aT (bh kp),_,aW.of (sm _ _ e2),_,aT (bh kq),_,rfl,_,rfl,by rw[aH,aH];exact ai ⋯,?_⟩;rw[D9];exact k1 _ _ _ (by rw[g1,g2]) sm ⟨_,rfl⟩
     ·intro H2 sm l hl
      rw[kG];refine good (mK p q') ?_ l _ ?_ (sm.trans (ae hl))
      ·show(if _ then _ else _)=_
       rw[if_pos (mk.mpr ⋯)]
      ·rw[ac]
       congr 2
       unfold mK aD;rw[Jf];apply List.ext_getElem?;intro k;rw[IV,IV]
       by_cases hk:k<r
       ·have kp:k<p.length:=by omega
        have kq:k<q'.length:=by omega
        rw[List.getElem?_range hk,(show(p.zip q')[k]?=some (p[k],q'[k]) from List.getElem?_zip_eq_some.mpr ⟨IQ kp,IQ kq⟩),Option.map_some,Option.map_some,List.getD_eq_getElem?_getD,List.getD_eq_getElem?_getD,IQ kp,IQ kq]
        rfl
       ·rw[List.getElem?_eq_none (by rw[List.length_range];omega),List.getElem?_eq_none (by rw[List.length_zip];omega)];rfl
   ·rw[if_pos ⋯]
    refine bad ?_ H (az.refl _);show(if _ then _ else _)=_;rw[if_neg (λh=>er (by rw[<- hl1,<- hl2];exact h.1))]
  | @above p q' r c r' c' hp hq=>
   obtain⟨a1,a2,rfl⟩:∃a1 a2,as=[a1,a2]:=by match as,hal with | [a1,a2],_=>exact⟨a1,a2,rfl⟩
   have e1:H a1=some (.lst (aD p)):=hat 0 (by simp) (by simp);have e2:H a2=some (.lst (aD q')):=hat 1 (by simp) (by simp);change bc K H t [.str (Str.ofString "above"),.str (tx v.n),.int v.c,.str (tx v.o1),.str (tx v.o2)]at sq;refine⟨_,sq,_,rfl,rfl,?_⟩;rw[if_neg Fy];refine⟨_,sq,_,rfl,rfl,?_⟩;rw[if_neg FT];refine⟨_,aW.of hlp,rfl,_,_,rfl,_,_,rfl,rfl,_,sq,_,rfl,rfl,?_⟩;rw[if_neg FU];have hl1:p.length=r:=hp.rc.1;have hl2:q'.length=r':=hq.rc.1;have hh1:=bQ hp.rc hp.r0;have hh2:=bQ hq.rc hq.r0;have h1:((aD p).length:Int)=(r:Int):=by rw[av,hl1]
   have h2:((aD q').length:Int)=(r':Int):=by rw[av,hl2]
   have p0:0<p.length:=by rw[hl1];exact hp.r0
   have q0:0<q'.length:=by rw[hl2];exact hq.r0
   have c1:(p[0]).length=c:=hp.rc.2 _ (I_ p0);have c2:(q'[0]).length=c':=hq.rc.2 _ (I_ q0);have b1:=hp.r6;have b2:=hp.c6;have b3:=hq.r6;have b4:=hq.c6
   have z1:fC (aD p) 0=some (V.str (tx p[0])):=(show fC _ ((0:Nat):Int)=_ from aT (bh p0));have z2:fC (aD q') 0=some (V.str (tx q'[0])):=(show fC _ ((0:Nat):Int)=_ from aT (bh q0));have mk:((p.headD []).length=(q'.headD []).length/\p.length+q'.length<=6)↔c=c'/\r+r'<=6:=by rw[hl1,hl2,hh1,hh2]
   refine⟨a1,rfl,_,aW.of e1,_,z1,_,rfl,by rw[aH];exact ai ⋯,a2,rfl,_,aW.of e2,_,z2,_,rfl,by rw[aH];exact ai ⋯,?_⟩;rw[aH,aH,c1,c2]
   by_cases ec:c=c'
   ·rw[if_neg ⋯]
    refine⟨a1,rfl,_,aW.of e1,a2,rfl,_,aW.of e2,?_⟩;rw[h1,h2]
    by_cases er:6<(r:Int)+(r':Int)
    ·rw[if_pos er]
     refine bad ?_ H (az.refl _);show(if _ then _ else _)=_;rw[if_neg (λh=>by have:=mk.mp h;omega)]
    ·rw[if_neg er]
     refine⟨a1,rfl,a2,rfl,_,e1,_,e2,by rw[av,av];exact ai ⋯,λl hl=>good (p++q') ?_ l _ ?_ (ae hl)⟩
     ·show(if _ then _ else _)=_
      rw[if_pos (mk.mpr ⟨ec,⋯⟩)]
     ·rw[ac];unfold aD;rw[Jd]
   ·rw[if_pos ⋯]
    refine bad ?_ H (az.refl _);show(if _ then _ else _)=_;rw[if_neg (λh=>ec (mk.mp h).1)]
inductive Gr(rs:Yaa):Dt->List Nat->bC->Int->Nat->Prop
 |cell {n:Nat} {v:RV}:rs[n]?=some (0,v)->Gr rs (.tup [.int (n:Int)]) v.n [v.sg] v.c 1
 |turn {n:Nat} {v:RV} {d:Dt} {p:bC} {c:Int} {k:Nat}:rs[n]?=some (3,v)->Gr rs d v.o1 p c k->Gr rs (.tup [.int (n:Int),d]) v.n (turned p v.t.toNat) (v.c+c) (k+1)
 |pair {n kd:Nat} {v:RV} {d1 d2:Dt} {p1 p2 p:bC} {c1 c2:Int} {k1 k2:Nat}:(kd=1\/kd=2)->rs[n]?=some (kd,v)->Gr rs d1 v.o1 p1 c1 k1->Gr rs d2 v.o2 p2 c2 k2->dF kd v [p1,p2]=some p->Gr rs (.tup [.int (n:Int),d1,d2]) v.n p (v.c+(c1+c2)) (max k1 k2+1)
theorem Gr.more{rs:Yaa}(r:Nat×RV){d:Dt}{nm:JV}{p:bC}{c:Int}{k:Nat}(g:Gr rs d nm p c k):Gr (rs++[r]) d nm p c k:=by
 have up:∀{n:Nat} {x:Nat×RV},rs[n]?=some x->(rs++[r])[n]?=some x:=fun{n x} e=>by rw[Jm (IR.mp e).1];exact e
 induction g with
 |cell e=>exact .cell (up e)
 |turn e _ ih=>exact .turn (up e) ih
 |pair h e _ _ m ih1 ih2=>exact .pair h (up e) ih1 ih2 m
theorem nw{k:Nat}{v:RV}{p1 p2 p:bC}{r c r' c':Nat}(hk:k=1\/k=2)(h1:g7 p1 r c)(h2:g7 p2 r' c')(m:dF k v [p1,p2]=some p):∃r c,g7 p r c:=by
 have e1:=bQ h1.rc h1.r0;have e2:=bQ h2.rc h2.r0;have l1:=h1.rc.1;have l2:=h2.rc.1;rcases hk with rfl | rfl
 ·have m':(if p1.length=p2.length/\(p1.headD []).length+(p2.headD []).length<=6 then some (mK p1 p2) else none)=some p:=m
  by_cases c0:p1.length=p2.length/\(p1.headD []).length+(p2.headD []).length<=6
  ·rw[if_pos c0]at m'
   cases m';rw[l1,l2,e1,e2]at c0;refine⟨r,c+c',⟨?_,h1.r0,h1.r6,by have:=h1.c0;omega,c0.2⟩⟩;refine⟨by unfold mK;rw[IT,List.length_zip,l1,l2];omega,λx hx=>?_⟩;unfold mK at hx;obtain⟨y,hy,rfl⟩:=JG.mp hx;have:=List.of_mem_zip hy;rw[Jn,h1.rc.2 _ this.1,h2.rc.2 _ this.2]
  ·rw[if_neg c0]at m';cases m'
 ·have m':(if(p1.headD []).length=(p2.headD []).length/\p1.length+p2.length<=6 then some (p1++p2) else none)=some p:=m
  by_cases c0:(p1.headD []).length=(p2.headD []).length/\p1.length+p2.length<=6
  ·rw[if_pos c0]at m'
   cases m';rw[l1,l2,e1,e2]at c0;refine⟨r+r',c,⟨⟨by rw[Jn,l1,l2],λx hx=>?_⟩,by have:=h1.r0;omega,c0.2,h1.c0,h1.c6⟩⟩;rcases Je.mp hx with h | h
   ·exact h1.rc.2 _ h
   ·rw[c0.1];exact h2.rc.2 _ h
  ·rw[if_neg c0]at m';cases m'
theorem ql{p:bC}{r c:Nat}(h:g7 p r c)(t:Nat):∃r c,g7 (turned p t) r c:=by
 have hm:eG (if 4<=t then eD p else p) r c:=by split;exact il h.rc;exact h.rc
 have:=dU (t%4) hm h.r0 h.c0;unfold turned
 by_cases e:t%4%2=0
 ·rw[if_pos e,if_pos e]at this;exact⟨r,c,this,h.r0,h.r6,h.c0,h.c6⟩
 ·rw[if_neg e,if_neg e]at this;exact⟨c,r,this,h.c0,h.c6,h.r0,h.r6⟩
theorem Gr.pic6{rs:Yaa}(hg:∀r∈rs,iw r){d:Dt}{nm:JV}{p:bC}{c:Int}{k:Nat}(g:Gr rs d nm p c k):∃r c,g7 p r c:=by
 induction g with
 | @cell n v e=>
  have:=iT (hg _ (IW e)).good.sg;exact⟨1,1,⟨rfl,λx hx=>by rw[IU.mp hx];exact this⟩,nofun,nofun,nofun,nofun⟩
 |turn e _ ih=>obtain⟨r,c,h⟩:=ih;exact ql h _
 |pair h e _ _ m ih1 ih2=>obtain⟨r,c,h1⟩:=ih1;obtain⟨r',c',h2⟩:=ih2;exact nw h h1 h2 m
structure SI where
 d:Dt
 nm:List Nat
 p:bC
 c:Int
 m:Int
 k:Nat
def fK(H:Hp)(a:Addr)(x:SI):Prop:=∃vt lp,H a=some (.tup [vt,.str (tx x.nm),.ref lp,.int x.c,.int x.m,.int (x.k:Int)])/\bH H x.d vt/\H lp=some (.lst (aD x.p))/\x.p≠[]
theorem fK.up{H H':Hp}{a:Addr}{x:SI}(h:fK H a x)(s:az H H'):fK H' a x:=by
 obtain⟨vt,lp,h1,h2,h3,h4⟩:=h;exact⟨vt,lp,s _ _ h1,h2.up (b0.of s) _,s _ _ h3,h4⟩
theorem mY{H:Hp}{l lp:Addr}{as:JY}{p:bC}(h1:H l=some (.lst (as.map V.ref)))(h2:H lp=some (.lst (aD p)))(h3:p≠[]):lp≠l:=λe=>by
 rw[e,h1]at h2;have h4:=HO.lst.inj (Option.some.inj h2);cases p with
 |nil=>exact h3 rfl
 |cons r p=>
  cases as with
  |nil=>exact nomatch h4
  |cons a as=>have:=(List.cons.inj h4).1;cases this
theorem fK.put{H:Hp}{l a:Addr}{as:JY}{o:HO}{x:SI}(h:fK H a x)(hl:H l=some (.lst (as.map V.ref))):fK (aC H l o) a x:=by
 obtain⟨vt,lp,h1,h2,h3,h4⟩:=h;refine⟨vt,lp,?_,h2.up (b0.put hl) _,?_,h4⟩
 ·rw[aj (λe=>by rw[e,hl]at h1;cases h1)];exact h1
 ·rw[aj (mY hl h3 h4)];exact h3
def bG(H:Hp)(as:JY)(xs:List SI):Prop:=as.length=xs.length/\∀(i:Nat) a x,as[i]?=some a->xs[i]?=some x->fK H a x
theorem bG.up{H H':Hp}{as:JY}{xs:List SI}(h:bG H as xs)(s:az H H'):bG H' as xs:=⟨h.1,λi a x e1 e2=>(h.2 i a x e1 e2).up s⟩
theorem bG.got{H:Hp}{as:JY}{xs:List SI}(h:bG H as xs){i:Nat}(hi:i<xs.length):∃a x,as[i]?=some a/\xs[i]?=some x/\fK H a x:=by
 have h1:i<as.length:=by rw[h.1];exact hi
 exact⟨as[i],xs[i],IQ h1,IQ hi,h.2 i _ _ (IQ h1) (IQ hi)⟩
def v4(r:Nat×RV)(ys:List SI):Prop:=(r.1=0/\ys=[])\/(r.1=3/\∃x,ys=[x]/\r.2.o1=x.nm)\/((r.1=1\/r.1=2)/\∃x y,ys=[x,y]/\r.2.o1=x.nm/\r.2.o2=y.nm/\dF r.1 r.2 [x.p,y.p]≠none)
theorem Cb{H:Hp}{a b:Addr}{xs:List V}{Q:VK}{neg:Bool}(ha:H a=some (.lst xs))(hb:H b=some (.lst []))(q:Q (.bl (xs.isEmpty != neg)) H):Ec K neg (.ref a) (.ref b) H Q:=by
 cases xs with
 |nil=>
  refine .inl ⟨[],by unfold Dt.deps;omega,.inl ⟨?_,?_⟩,by simpa using q⟩
  ·unfold jN;exact⟨a,_,rfl,aW.of ha,by unfold dM;rfl⟩
  ·unfold jN;exact⟨b,_,rfl,aW.of hb,by unfold dM;rfl⟩
 |cons x xs=>exact .inr ⟨a,b,_,_,rfl,rfl,aW.of ha,aW.of hb,by simp,by simpa using q⟩
theorem DI{α:Type}{xs:List α}{j:Nat}{v:α}(h:j<xs.length)(e:xs[xs.length-1-j]?=some v):fC xs (-1-(j:Int))=some v:=by
 unfold fC BM;rw[if_neg ⋯,if_pos ⋯,Option.bind_some,show(-1-(j:Int)+(xs.length:Int)).toNat=xs.length-1-j by omega];exact e
noncomputable def wQ(k:Nat):Str:=if k=1 then "beside" else "above"
theorem eQ{H H':Hp}{a:Addr}(s:az H H')(h:H' a=none):H a=none:=by
 cases e:H a with
 |none=>rfl
 |some o=>rw[s _ _ e]at h;cases h
noncomputable abbrev nX:Stmt:=eJ 58
inductive qo(vs:List V)(H:Hp)(Q:VK)(_E:XK):Prop
 |mk (ls b:Addr) (c:Int) (as:JY) (xs:List SI) (p:bC) (sg:JV) (_:vs=[.ref ls,.int c,.ref b,.str (tx sg)]) (_:H ls=some (.lst (as.map V.ref))) (_:bG H as xs) (_:H b=some (.lst (aD p))) (_:p.length=4) (_:(∀r∈p,cA r=true)) (_:cU sg=true) (_:(∀x∈xs,x.nm∈p/\∃r c,g7 x.p r c)) (_:xs.length<=1000) (_:∀tp t lb r bs ys H',H' tp=some (.tup [.ref t,.ref lb])->H' t=some (.tup (dX r))->gR p sg r->H' lb=some (.lst (bs.map V.ref))->bG H' bs ys->(∀y∈ys,y∈xs)->v4 r ys->H lb=none->az H H'->Q (.ref tp) H')
theorem yz:aE ["_law_stock","_law_cell_here","_law_names_here","_law_signs_here","_law_told_here","_law_rest","_law_one","_law_other","_law_words","_law_word","_law_rule"] ["_law_stock","_law_cell_here","_law_names_here","_law_signs_here"] (ak nX):=by walk_at "c"
theorem xZ{f:Addr}{fd:J0}(F:cF K "_law_next" "_law_next" nX f fd)(nb:NB mg)(zxa:cY P w K mg base bD 1 "_law_drawn_rule" ["_law_cell_here","_law_names_here","_law_signs_here"] eH)(zEa:cY P w K mg base bD 3 "_law_put" ["_law_told_here","_law_pictures"] kP):bb P w K mg base bD 4 f fd ["_law_stock","_law_cell_here","_law_names_here","_law_signs_here"] qo:=by
 have sc:=yz;walk_at "f"
 ·obtain⟨ls,b,c,as,xs,p,sg,rfl,_⟩:=h;rfl
 ·obtain⟨ls,b,c,as,xs,p,sg,rfl,hls,hst,hb,hp,hpn,hsg,hxs,hxl,q⟩:=h
  have hu:=hr.units;refine⟨_,(ag (aM (i:=4) sc.nd rfl (Or.inl rfl) (aO zxa (hr.mono nofun) rfl ba (aa (aq (aZ.m1 fh) (aq (aZ.m1 bi) (am 1) af) af) (aa (am 2) (aa (am 3) ad)))))
   (ag (bd (PW.pt (fU (aB (vV hu) (am 0) (bw ad) (aI _)) (d9 (aB (aZ.m0 lZ) (aq (aZ.m1 aX) (am 1) af) af (aI _)))))
   (ah (aG (aP (aa (am 4) (aa (bw ad) ad)))))
   aL)
   (ag (aM (i:=5) sc.nd rfl (Or.inl rfl) (aq (aZ.m1 bi) (am 1) af))
   (ag (aM (i:=6) sc.nd rfl (Or.inl rfl) (ay aV (am 0) (aq (aZ.m1 aX) (am 5) (au aQ rfl nb.len aR (aa (am 0) ad))) (λ_ _=>rfl)))
   (ag (aM (i:=7) sc.nd rfl (Or.inl rfl) (ay aV (am 0) (aq (aZ.m0 fJ) (tL nJ af) (aq (aZ.m1 aX) (aq (aZ.m1 bi) (am 5) af) (au aQ rfl nb.len aR (aa (am 0) ad)))) (λ_ _=>rfl)))
   (xX (bd (aB (aZ.m0 lZ) (aq (aZ.m1 aX) (am 1) af) af (aI _))
   (ah (aG (aP (aa (aP (bg (aa (ay aA (am 4) af (λ_ _=>rfl)) (aa (ay aA (am 4) af (λ_ _=>rfl)) (aa (ay aA (am 6) af (λ_ _=>rfl)) (aa (aq (aZ.m1 aX) (aq (aZ.m1 bi) (am 5) af) af) ad)))))) (aa (bw (aa (am 6) ad)) ad)))))
   aL)
   (Cz (Ei (i:=8) sc.nd rfl (Or.inl rfl) (Ek (EO (zW (Ca (Ca wb))) (EO (zW (Ca (Ca wb))) wb))) (aq aX (aq bi (pv 5) af) af) (λ_ _=>rfl))
   (ag (bK PassesOwn.never rfl (lN (am 8)) (aF (i:=9) sc.nd rfl (Or.inl rfl))
   (ag (aM (i:=10) sc.nd rfl (Or.inl rfl) (aP (aa (am 9) (aa (ay aA (am 4) af (λ_ _=>rfl)) (aa (ay aA (am 4) af (λ_ _=>rfl)) (aa (ay aA (am 6) af (λ_ _=>rfl)) (aa (ay aA (am 7) af (λ_ _=>rfl)) ad)))))))
   (ah (bd (aB gy (aO zEa (hr.mono nofun) rfl ba (aa (am 10) (aa (bw (aa (ay aA (am 6) af (λ_ _=>rfl)) (aa (ay aA (am 7) af (λ_ _=>rfl)) ad))) ad))) bU (aI _))
   (ah (aG (aP (aa (am 10) (aa (bw (aa (am 6) (aa (am 7) ad))) ad)))))
   aL))))
   (ah (aG (aP (aa (am 4) (aa (bw ad) ad))))))))))))),?_⟩
  walk_at "n";refine⟨_,b,p,sg,rfl,hb,hp,hpn,hsg,λt r H1 hro ht hkind s1=>h1 _ _ ?_⟩;clear h1;have hk0:r.1=0:=hkind.1 ⋯;obtain⟨rk,v⟩:=r;cases hk0;have sqt:bc K H1 t [.str (Str.ofString "cell"),.str (tx v.n),.int v.c,.str (tx v.sg)]:=bc.of ht;have hls1:=s1 _ _ hls;have hst1:=hst.up s1;have yaQ:∀H2,az H1 H2->∀lb,H2 lb=none->∀tp,aC H2 lb (.lst []) tp=none->Q (.ref tp) (aC (aC H2 lb (.lst [])) tp (.tup [.ref t,.ref lb])):=λH2 s2 lb hlb tp htp=>
   q tp t lb (0,v) [] [] _ ac (ae htp _ _ (ae hlb _ _ (s2 _ _ ht))) hro (ae htp _ _ ac) ⟨rfl,λi a x e=>by simp at e⟩ (λy hy=>nomatch hy) (.inl ⟨rfl,rfl⟩) (eQ (s1.trans s2) hlb) ((s1.trans s2).trans ((ae hlb).trans (ae htp)))
  walk_at "n";refine⟨Jp _,λpe hpe=>?_⟩;refine Cb (ae hpe _ _ hls1) ac ?_;have s2:az H1 (aC H1 pe (.lst [])):=ae hpe;generalize aC H1 pe (.lst [])=H2 at s2 ⊢;refine⟨_,rfl,?_⟩
  by_cases hx0:xs=[]
  ·have ha0:as=[]:=JF.mp (by rw[hst.1,hx0];rfl)
   rw[if_pos (by rw[ha0];rfl)];exact⟨Jp _,λlb hlb=>⟨ai nofun,λtp htp=>yaQ H2 s2 lb hlb tp htp⟩⟩
  have hpos:0<xs.length:=List.length_pos_iff.mpr hx0;have hal:=hst.1;rw[if_neg (by cases as with | nil=>rw[<- hal]at hpos;exact absurd hpos nofun | cons a as=>simp)]
  by_cases h82:c%8<2
  ·rw[if_pos h82]
   exact⟨Jp _,λlb hlb=>⟨ai nofun,λtp htp=>yaQ H2 s2 lb hlb tp htp⟩⟩
  rw[if_neg h82];refine h1 _ _ ?_;clear h1;have ls2:=s2 _ _ hls1;have st2:=hst1.up s2;have s02:=s1.trans s2;have sq2:bc K H2 t [.str (Str.ofString "cell"),.str (tx v.n),.int v.c,.str (tx v.sg)]:=s2.sqT sqt;walk_at "n";refine h1 _ _ ?_;clear h1;generalize c/8=bv;have hlen:((as.map V.ref).length:Int)=(xs.length:Int):=by rw[IT,hal]
  walk_at "n";obtain⟨i,hi⟩:∃i:Nat,bv%(xs.length:Int)=(i:Int):=⟨_,(JN (JL _ ⋯)).symm⟩;have hi2:i<xs.length:=by have:=JM bv (b:=(xs.length:Int)) ⋯;omega
  obtain⟨a1,x,ea1,ex,ia1⟩:=st2.got hi2;refine⟨_,aW.of ls2,by rw[hlen];omega,_,aW.of ls2,V.ref a1,by rw[hlen,hi];exact aT (by rw[IV,ea1];rfl),h1 _ _ ?_⟩;walk_at "nc";obtain⟨j,hj⟩:∃j:Nat,bv/5%(xs.length:Int)=(j:Int):=⟨_,(JN (JL _ ⋯)).symm⟩;have hj2:j<xs.length:=by have:=JM (bv/5) (b:=(xs.length:Int)) ⋯;omega
  have hj3:xs.length-1-j<xs.length:=by omega
  obtain⟨a2,y,ea2,ey,ia2⟩:=st2.got hj3;refine⟨_,aW.of ls2,by rw[hlen];omega,_,aW.of ls2,V.ref a2,by rw[hlen,hj];exact DI (by rw[IT,hal];exact hj2) (by rw[IV,IT,hal,ea2];rfl),h1 _ _ ?_⟩;clear h1;have xm:x∈xs:=IW ex;have ym:y∈xs:=IW ey;obtain⟨xp,rx,cx,x6⟩:=hxs x xm;obtain⟨yp,ry,cy,y6⟩:=hxs y ym;have rv:∀(k:Nat) (o1 o2:JV) (tt:Int),k<4->o1∈p->o2∈p->0<=tt->tt<=7->gR p sg (k,{v with o1:=o1,o2:=o2,t:=tt}):=λk o1 o2 tt hk h1 h2 h3 h4=>by
   have g:=hro.good.good;have g':RV.good {v with o1:=o1,o2:=o2,t:=tt}:=⟨g.n,g.c1,g.c9,hpn _ h1,hpn _ h2,g.sg,h3,h4⟩;exact⟨⟨hk,g',g'.small⟩,hro.n,h1,h2,hro.sg⟩
  obtain⟨vt1,lp1,ta1,tr1,pp1,pn1⟩:=id ia1;obtain⟨vt2,lp2,ta2,tr2,pp2,pn2⟩:=id ia2;have q1:bc K H2 a1 [vt1,.str (tx x.nm),.ref lp1,.int x.c,.int x.m,.int (x.k:Int)]:=bc.of ta1;have q2:bc K H2 a2 [vt2,.str (tx y.nm),.ref lp2,.int y.c,.int y.m,.int (y.k:Int)]:=bc.of ta2;walk_at "n"
  by_cases h84:c%8<4
  ·rw[if_pos h84]
   have t0:0<=bv/7%8:=JL _ ⋯;have t7:bv/7%8<8:=JM _ ⋯;refine⟨_,sq2,_,rfl,_,sq2,_,rfl,_,q1,_,rfl,ai nofun,λt3 ht3=>⟨ai nofun,λlb hlb=>⟨ai nofun,λtp htp=>?_⟩⟩⟩;have sA:=(ae (o:=.tup [V.str (Str.ofString "turned"),V.str (tx v.n),V.int v.c,V.str (tx x.nm),V.int (bv/7%8)]) ht3).trans ((ae (o:=.lst [V.ref a1]) hlb).trans (ae (o:=.tup [V.ref t3,V.ref lb]) htp));refine q tp t3 lb (3,{v with o1:=x.nm,o2:=v.o2,t:=bv/7%8}) [a1] [x] _ ac (ae htp _ _ (ae hlb _ _ ac)) (rv 3 x.nm v.o2 _ nofun xp hro.o2 t0 ⋯) (ae htp _ _ ac) ⟨rfl,λi a z e1 e2=>?_⟩ (λz hz=>by rw[IU.mp hz];exact xm) (.inr (.inl ⟨rfl,x,rfl,rfl⟩)) (eQ (s02.trans (ae ht3)) hlb) (s02.trans sA)
   match i,e1,e2 with
   |0,e1,e2=>cases e1;cases e2;exact ia1.up sA
   |i+1,e1,e2=>simp at e1
  ·rw[if_neg h84]
   refine h1 _ _ ?_;walk_at "nc";refine⟨ai nofun,λw1 hw1=>⟨ai nofun,λw2 hw2=>⟨ai nofun,λw3 hw3=>?_⟩⟩⟩;have sA:=(ae (o:=.tup [V.str (Str.ofString "beside"),V.str (Str.ofString "above")]) hw1).trans ((ae (o:=.tup [V.str (Str.ofString "above"),V.str (Str.ofString "beside")]) hw2).trans (ae (o:=.lst [V.ref w1,V.ref w2]) hw3));have f1:aC (aC (aC H2 w1 (.tup [V.str (Str.ofString "beside"),V.str (Str.ofString "above")])) w2 (.tup [V.str (Str.ofString "above"),V.str (Str.ofString "beside")])) w3 (.lst [V.ref w1,V.ref w2]) w1=some (.tup [V.str (Str.ofString "beside"),V.str (Str.ofString "above")]):=ae hw3 _ _ (ae hw2 _ _ ac);have f2:aC (aC (aC H2 w1 (.tup [V.str (Str.ofString "beside"),V.str (Str.ofString "above")])) w2 (.tup [V.str (Str.ofString "above"),V.str (Str.ofString "beside")])) w3 (.lst [V.ref w1,V.ref w2]) w2=some (.tup [V.str (Str.ofString "above"),V.str (Str.ofString "beside")]):=ae hw3 _ _ ac;have f3:aC (aC (aC H2 w1 (.tup [V.str (Str.ofString "beside"),V.str (Str.ofString "above")])) w2 (.tup [V.str (Str.ofString "above"),V.str (Str.ofString "beside")])) w3 (.lst [V.ref w1,V.ref w2]) w3=some (.lst [V.ref w1,V.ref w2]):=ac;generalize aC (aC (aC H2 w1 (.tup [V.str (Str.ofString "beside"),V.str (Str.ofString "above")])) w2 (.tup [V.str (Str.ofString "above"),V.str (Str.ofString "beside")])) w3 (.lst [V.ref w1,V.ref w2])=H3 at sA f1 f2 f3 ⊢;obtain⟨wx,ww,fw,aw,kw⟩:∃(wx:Addr) (ww:List V),H3 wx=some (.tup ww)/\fC ([V.ref w1,V.ref w2]:List V) (bv/11%2)=some (V.ref wx)/\∀(i:Nat) z,ww[i]?=some z->∃kd,(kd=1\/kd=2)/\z=V.str (wQ kd):=by
    have two:bv/11%2=0\/bv/11%2=1:=by omega
    rcases two with e | e
    ·refine⟨w1,_,f1,by rw[e];rfl,λi z hz=>?_⟩
     match i,hz with
     |0,hz=>cases hz;exact⟨1,.inl rfl,rfl⟩
     |1,hz=>cases hz;exact⟨2,.inr rfl,rfl⟩
     |i+2,hz=>simp at hz
    ·refine⟨w2,_,f2,by rw[e];rfl,λi z hz=>?_⟩
     match i,hz with
     |0,hz=>cases hz;exact⟨2,.inr rfl,rfl⟩
     |1,hz=>cases hz;exact⟨1,.inl rfl,rfl⟩
     |i+2,hz=>simp at hz
   refine⟨_,aW.of f3,_,aw,h1 _ _ ?_⟩;walk_at "nc";refine⟨⟨_,bc.of fw⟩,?_⟩;refine jS (xs:=ww) (λi σ H'=>az H2 H'/\H' wx=some (.tup ww)/\∃z1 z2,σ=[some (V.ref ls),some (V.int c),some (V.ref b),some (V.str (tx sg)),some (V.ref t),some (V.int bv),some (V.ref a1),some (V.ref a2),some (V.ref wx),z1,z2]) ⟨sA,fw,_,_,rfl⟩ ?_ ?_ ?_
   ·rintro i σ H' _ ⟨_,h,_⟩
    exact bc.of h
   ·rintro i z σ H' hz ⟨sm,hwx,z1,z2,rfl⟩
    obtain⟨kd,hkd,rfl⟩:=kw i z hz;walk_at "wp";have st':=(s02.trans sm);have q1':bc K H' a1 _:=sm.sqT q1;have q2':bc K H' a2 _:=sm.sqT q2;refine⟨_,sm.sqT sq2,_,rfl,_,sm.sqT sq2,_,rfl,_,q1',_,rfl,_,q2',_,rfl,ai nofun,λrp hrp=>?_⟩;have sR:=ae (o:=.tup [V.str (wQ kd),V.str (tx v.n),V.int v.c,V.str (tx x.nm),V.str (tx y.nm)]) hrp;have hR:aC H' rp (.tup [V.str (wQ kd),V.str (tx v.n),V.int v.c,V.str (tx x.nm),V.str (tx y.nm)]) rp=some (.tup (dX (kd,{v with o1:=x.nm,o2:=y.nm,t:=0}))):=by
     rw[ac];rcases hkd with rfl | rfl<;>rfl
    generalize aC H' rp (.tup [V.str (wQ kd),V.str (tx v.n),V.int v.c,V.str (tx x.nm),V.str (tx y.nm)])=H4 at sR hR ⊢;have sm4:=sm.trans sR;refine⟨_,sR.sqT q1',_,rfl,_,sR.sqT q2',_,rfl,ai nofun,λpl hpl=>?_⟩;have sP:=ae (o:=.lst [V.ref lp1,V.ref lp2]) hpl;have hP:aC H4 pl (.lst [V.ref lp1,V.ref lp2]) pl=some (.lst (([lp1,lp2]:List Addr).map V.ref)):=ac;generalize aC H4 pl (.lst [V.ref lp1,V.ref lp2])=H5 at sP hP ⊢;have sm5:=sm4.trans sP;have kl:kd<4:=by rcases hkd with rfl | rfl<;>decide
    refine⟨rp,pl,(kd,{v with o1:=x.nm,o2:=y.nm,t:=0}),[lp1,lp2],[x.p,y.p],rfl,sP _ _ hR,kl,by show(0:Int)<=0;decide,by show(0:Int)<=7;decide,⟨hP,rfl,λi h1 h2=>?_⟩,?_,λpc hpc l H6 hl s6=>?_,λ_ H6 s6=>?_⟩
    ·match i,h1,h2 with
     |0,_,_=>exact sm5 _ _ pp1
     |1,_,_=>exact sm5 _ _ pp2
     |i+2,h1,_=>simp at h1;omega
    ·rcases hkd with rfl | rfl
     ·exact .beside x6 y6
     ·exact .above x6 y6
    ·try dsimp only
     rw[if_pos (λe:V.ref l=V.non=>by cases e)];refine⟨ai nofun,λlb hlb=>⟨ai nofun,λtp htp=>?_⟩⟩;have sm6:=sm5.trans s6;have sB:=(ae (o:=.lst [V.ref a1,V.ref a2]) hlb).trans (ae (o:=.tup [V.ref rp,V.ref lb]) htp);refine q tp rp lb (kd,{v with o1:=x.nm,o2:=y.nm,t:=0}) [a1,a2] [x,y] _ ac (sB _ _ (s6 _ _ (sP _ _ hR))) (rv kd x.nm y.nm 0 kl xp yp nofun nofun) (ae htp _ _ ac) ⟨rfl,λi a z e1 e2=>?_⟩ (λz hz=>?_) (.inr (.inr ⟨hkd,x,y,rfl,rfl,rfl,?_⟩)) (eQ (s02.trans sm6) hlb) ((s02.trans sm6).trans sB)
     ·match i,e1,e2 with
      |0,e1,e2=>cases e1;cases e2;exact ia1.up (sm6.trans sB)
      |1,e1,e2=>cases e1;cases e2;exact ia2.up (sm6.trans sB)
      |i+2,e1,e2=>simp at e1
     ·rcases Jg.mp hz with rfl | hz
      ·exact xm
      ·rw[IU.mp hz];exact ym
     ·rw[hpc];exact λe=>nomatch e
    ·try dsimp only
     rw[if_neg (λe:¬ V.non=V.non=>e rfl)];exact⟨sm5.trans s6,s6 _ _ (sP _ _ (sR _ _ hwx))⟩
   ·rintro σ H' ⟨sm,hwx,z1,z2,rfl⟩
    refine h1 _ _ ?_;walk_at "wp";exact⟨Jp _,λlb hlb=>⟨ai nofun,λtp htp=>yaQ H' (s2.trans sm) lb hlb tp htp⟩⟩
structure oX(r' r:Nat×RV):Prop where
 k:r'.1=r.1
 sg:r.1=0->r'.2.sg=r.2.sg
 o1:r.1≠0->r'.2.o1=r.2.o1
 o2:r.1=1\/r.1=2->r'.2.o2=r.2.o2
 t:r.1=3->r'.2.t=r.2.t
theorem oX.rfl'(r:Nat×RV):oX r r:=⟨rfl,λ_=>rfl,λ_=>rfl,λ_=>rfl,λ_=>rfl⟩
theorem fA{a b:JV}(h:tx a=tx b):a=b:=by
 have:=congrArg (λs:Str=>s.cps.toList) h
 simpa[tx]using this
noncomputable def B8(k:Nat):Str:=match k with | 0=>"cell" | 1=>"beside" | 2=>"above" | _=>"turned"
theorem zj(r:Nat×RV):fC (dX r) 0=some (.str (B8 r.1)):=by
 obtain⟨k,v⟩:=r
 match k with
 |0=>rfl
 |1=>rfl
 |2=>rfl
 |k+3=>rfl
theorem BO{a b:Nat}(ha:a<4)(hb:b<4)(h:B8 a=B8 b):a=b:=by
 have:∀a:Fin 4,∀b:Fin 4,B8 a.1=B8 b.1->a=b:=by decide +kernel
 exact congrArg Fin.val (this ⟨a,ha⟩ ⟨b,hb⟩ h)
theorem qF(r:Nat×RV):(dE (dX r) (some 3) none).all qt=true:=by
 obtain⟨k,v⟩:=r
 match k with
 |0=>rfl
 |1=>rfl
 |2=>rfl
 |k+3=>rfl
theorem uN(r:Nat×RV):¬ (HT.sIx (dX r).length 0 (some 3)=0/\HT.sIx (dX r).length (dX r).length none=(dX r).length):=by
 obtain⟨k,v⟩:=r
 match k with
 |0=>exact λh=>by cases h.1
 |1=>exact λh=>by cases h.1
 |2=>exact λh=>by cases h.1
 |k+3=>exact λh=>by cases h.1
theorem iN{a b:Str}(h:uV (.str a) (.str b)=true):a=b:=by
 have h':(a==b)=true:=h;exact eq_of_beq h'
theorem CB{a b:Int}(h:uV (.int a) (.int b)=true):a=b:=by
 have h':(a==b)=true:=h;exact eq_of_beq h'
theorem on{x y x' y':V}(h:rW [x,y] [x',y']=true):uV x x'=true/\uV y y'=true:=by
 have h':(([0,1]:List Nat).all (λj=>match([x,y]:List V)[j]?,([x',y']:List V)[j]? with | some x,some y=>uV x y | _,_=>true)&&true)=true:=h
 simpa using h'
theorem A8{x x':V}(h:rW [x] [x']=true):uV x x'=true:=by
 have h':(([0]:List Nat).all (λj=>match([x]:List V)[j]?,([x']:List V)[j]? with | some x,some y=>uV x y | _,_=>true)&&true)=true:=h
 simpa using h'
theorem AX{r' r:Nat×RV}(h4':r'.1<4)(h4:r.1<4)(hk:V.str (B8 r'.1)=V.str (B8 r.1))(he:rW (dE (dX r') (some 3) none) (dE (dX r) (some 3) none)=true):oX r' r:=by
 have e:=BO h4' h4 (V.str.inj hk);obtain⟨k',v'⟩:=r';obtain⟨k,v⟩:=r;have e:k'=k:=e;subst e;have h4:k'<4:=h4
 match k',h4 with
 |0,_=>
  have:=fA (iN (A8 (show rW [.str (tx v'.sg)] [.str (tx v.sg)]=true from he)));exact⟨rfl,λ_=>this,λh=>absurd rfl h,λh=>(by rcases h with h | h<;>cases h),λh=>(by cases h)⟩
 |1,_=>
  have:=on (show rW [.str (tx v'.o1),.str (tx v'.o2)] [.str (tx v.o1),.str (tx v.o2)]=true from he);exact⟨rfl,λh=>(by cases h),λ_=>fA (iN this.1),λ_=>fA (iN this.2),λh=>(by cases h)⟩
 |2,_=>
  have:=on (show rW [.str (tx v'.o1),.str (tx v'.o2)] [.str (tx v.o1),.str (tx v.o2)]=true from he);exact⟨rfl,λh=>(by cases h),λ_=>fA (iN this.1),λ_=>fA (iN this.2),λh=>(by cases h)⟩
 |3,_=>
  have:=on (show rW [.str (tx v'.o1),.int v'.t] [.str (tx v.o1),.int v.t]=true from he);exact⟨rfl,λh=>(by cases h),λ_=>fA (iN this.1),λh=>(by rcases h with h | h<;>cases h),λ_=>CB this.2⟩
noncomputable abbrev jy:Stmt:=eJ 59
inductive iG(vs:List V)(H:Hp)(Q:VK)(_E:XK):Prop
 |mk (l t:Addr) (b:Bool) (ts:JY) (rs:Yaa) (r:Nat×RV) (_:vs=[.ref l,.ref t,.bl b]) (_:bV H l ts rs) (_:(∀x∈rs,x.1<4)) (_:H t=some (.tup (dX r))) (_:r.1<4) (_:rs.length<=24) (_:(∀(k:Nat) r' H',rs[k]?=some r'->oX r' r->az H H'->Q (.int (k:Int)) H')) (_:(rs.length=24->∀H',az H H'->Q .non H')) (_:(rs.length<24->∀H0,az H H0->Q (.int (rs.length:Int)) (aC H0 l (.lst (ts.map V.ref++[V.ref t])))))
theorem uG:aE ["_law_rules","_law_told_here","_law_again","_law_k","_law_rule"] ["_law_rules","_law_told_here","_law_again"] (ak jy):=by walk_at "c"
theorem uc{f:Addr}{fd:J0}(F:cF K "_law_number" "_law_number" jy f fd)(nb:NB mg):bb P w K mg base bD 1 f fd ["_law_rules","_law_told_here","_law_again"] iG:=by
 have sc:=uG;walk_at "f"
 ·obtain⟨l,t,b,ts,rs,r,rfl,_⟩:=h;rfl
 ·obtain⟨l,t,b,ts,rs,r,rfl,hrs,hk4,ht,hr4,hl24,q1,q2,q3⟩:=h
  have hu:=hr.units;refine⟨_,(ag (bK PassesOwn.never rfl (mV rfl nb.enumerate (aa (am 0) ad)) (eF (n:=2) rfl (a_ (aF (i:=3) sc.nd rfl (Or.inl rfl)) (a_ (aF (i:=4) sc.nd rfl (Or.inl rfl)) cM)))
   (ah (bd (PW.pt (jJ (gN (am 2) λ_=>rfl) (jJ (aB cz (ay aA (am 4) af (λ_ _=>rfl)) (ay aA (am 1) af (λ_ _=>rfl)) (aI _)) (kO (aB (A0 hu) (bY lU (am 4) (cv af) cw) (bY lU (am 1) (cv af) cw) (aI _))))))
   (ah (aG (am 3)))
   aL)))
   (ag (bd (aB cz (au aQ rfl nb.len aR (aa (am 0) ad)) af (aI _))
   (ah (aG bU))
   aL)
   (ag (bJ (eO PySem.F.plainAttrs_list PySem.F.slot_list_append PySem.F.type_list_append cg (am 0) (aa (am 1) ad)))
   (ah (aG (aq (aZ.m0 fJ) (au aQ rfl nb.len aR (aa (am 0) ad)) af)))))),?_⟩
  walk_at "n";refine⟨_,aW.of hrs.1,?_⟩;refine iM (xs:=ts.map V.ref) (λi σ H'=>az H H'/\∃z1 z2,σ=[some (V.ref l),some (V.ref t),some (V.bl b),z1,z2]) ⟨λ_ _ e=>e,_,_,rfl⟩ ?_ ?_ ?_
  ·rintro i σ H' _ ⟨sm,_⟩
   exact aW.of (sm _ _ hrs.1)
  ·rintro i x σ H' T hx ⟨sm,z1,z2,rfl⟩ hT
   rw[IV]at hx;obtain⟨ti,hti,rfl⟩:=Js.mp hx;obtain⟨r',hr'⟩:∃r',rs[i]?=some r':=⟨_,IQ (by have:=(IR.mp hti).1;have:=hrs.2.1;omega)⟩;have hri:=sm _ _ (hrs.2.2 i ti r' hti hr');have sT:=ae (o:=.tup [V.int (i:Int),V.ref ti]) hT;have hTT:aC H' T (.tup [V.int (i:Int),V.ref ti]) T=some (.tup [V.int (i:Int),V.ref ti]):=ac;generalize aC H' T (.tup [V.int (i:Int),V.ref ti])=H1 at sT hTT ⊢;walk_at "wp";have sm1:=sm.trans sT;refine⟨_,bc.of hTT,rfl,_,_,rfl,_,_,rfl,rfl,?_⟩;cases b with
   |false=>rw[if_neg nofun];exact sm1
   |true=>
    rw[if_pos rfl];refine⟨ti,rfl,_,bc.of (sT _ _ hri),_,zj r',_,bc.of (sm1 _ _ ht),_,zj r,rfl,?_⟩
    by_cases hkk:V.str (B8 r'.1)=V.str (B8 r.1)
    ·rw[if_pos hkk]
     refine⟨ti,rfl,_,bc.of (sT _ _ hri),uN r',λc1 hc1=>?_⟩;have sC:=ae (o:=.tup (dE (dX r') (some 3) none)) hc1;refine⟨_,bc.of (sC _ _ (sm1 _ _ ht)),uN r,λc2 hc2=>?_⟩;have sD:=ae (o:=.tup (dE (dX r) (some 3) none)) hc2;refine⟨_,bc.of (sD _ _ ac),_,bc.of ac,qF r',qF r,?_⟩;have sE:=(sm1.trans sC).trans sD
     by_cases he:rW (dE (dX r') (some 3) none) (dE (dX r) (some 3) none)=true
     ·rw[if_pos he]
      exact q1 i r' _ hr' (AX (hk4 _ (IW hr')) hr4 hkk he) sE
     ·rw[if_neg he];exact sE
    ·rw[if_neg hkk];exact sm1
  ·rintro σ H' ⟨sm,z1,z2,rfl⟩
   refine h1 _ _ ?_;walk_at "wp";have hl':=sm _ _ hrs.1;have hln:(ts.map V.ref).length=rs.length:=by rw[IT];exact hrs.2.1
   refine⟨_,aW.of hl',?_⟩;rw[hln]
   by_cases h24:(rs.length:Int)=24
   ·rw[if_pos h24];exact q2 ⋯ _ sm
   ·rw[if_neg h24]
    refine⟨.inl ⟨rfl,_,aW.of hl'⟩,_,hl',?_,_,aW.of ac,?_⟩
    ·rw[hln];exact bp ⋯
    ·have:=q3 ⋯ H' sm
     rw[Jn,hln];rw[show(((rs.length+[V.ref t].length:Nat):Int)-1)=(rs.length:Int) by simp];exact this
theorem dh{H:Hp}{a b:Addr}{xs ys:List V}{Q:VK}(ha:H a=some (.tup xs))(hb:H b=some (.tup ys))(hx:xs≠[])(hz:xs.length+ys.length<=1000)(q:∀p H',H' p=some (.tup (xs++ys))->az H H'->Q (.ref p) H'):Aq K (.ref a) (.ref b) H Q:=
 ⟨a,b,xs,ys,rfl,rfl,bc.of ha,bc.of hb,hx,ai ⋯,λe=>q a H (by rw[e,Jz];exact ha) (az.refl _),λ_ p hp=>q p _ ac (ae hp)⟩
mutual
noncomputable def kY:Dt->Nat
 | .tup ds=>jd ds
 |_=>1
noncomputable def jd:List Dt->Nat
 | []=>0
 |d::ds=>kY d+jd ds
end
theorem yh(ys:List SI)(h:∀y∈ys,y.m=(kY y.d:Int)):((jd (ys.map SI.d):Nat):Int)=(ys.map SI.m).sum:=by
 induction ys with
 |nil=>unfold jd;rfl
 |cons y ys ih=>
  rw[Ju,Ju,List.sum_cons];unfold jd;rw[Int.natCast_add,ih (λz hz=>h z (by simp[hz])),h y (by simp)]
structure kx(rs:Yaa)(p:bC)(x:SI):Prop where
 gr:Gr rs x.d x.nm x.p x.c x.k
 nm:x.nm∈p
 k1:x.k<=18
 m1:x.m=(kY x.d:Int)
 m2:x.m<=60
theorem kx.more{rs:Yaa}{p:bC}{x:SI}(r:Nat×RV)(h:kx rs p x):kx (rs++[r]) p x:=⟨h.gr.more r,h.nm,h.k1,h.m1,h.m2⟩
structure FI where
 a:Addr
 vt:V
 lp:Addr
 x:SI
noncomputable def FI.vals(z:FI):List V:=[z.vt,.str (tx z.x.nm),.ref z.lp,.int z.x.c,.int z.x.m,.int (z.x.k:Int)]
def FI.at(H:Hp)(z:FI):Prop:=H z.a=some (.tup z.vals)/\bH H z.x.d z.vt/\H z.lp=some (.lst (aD z.x.p))/\z.x.p≠[]
theorem FI.at.up{H H':Hp}{z:FI}(h:z.at H)(s:az H H'):z.at H':=⟨s _ _ h.1,h.2.1.up (b0.of s) _,s _ _ h.2.2.1,h.2.2.2⟩
theorem bG.full{H:Hp}:∀{as:JY} {xs:List SI},bG H as xs->∃fs:List FI,as=fs.map FI.a/\xs=fs.map FI.x/\∀z∈fs,z.at H
 | [],[],_=>⟨[],rfl,rfl,λ_ h=>nomatch h⟩
 | [],x::xs,h=>absurd h.1 (by simp)
 |a::as,[],h=>absurd h.1 (by simp)
 |a::as,x::xs,h=>by
  obtain⟨fs,e1,e2,hf⟩:=bG.full (as:=as) (xs:=xs) ⟨by simpa using h.1,λi a x e1 e2=>h.2 (i+1) a x (by simpa using e1) (by simpa using e2)⟩;obtain⟨vt,lp,h1,h2,h3,h4⟩:=h.2 0 a x rfl rfl;refine⟨⟨a,vt,lp,x⟩::fs,by rw[e1];rfl,by rw[e2];rfl,λz hz=>?_⟩;rcases Jg.mp hz with rfl | hz
  ·exact⟨h1,h2,h3,h4⟩
  ·exact hf z hz
theorem e_{H:Hp}{lb:Addr}{fs:List FI}{j:Int}{f:FI->V}{σ:St}{Q:List V->Hp->Prop}(h0:∃z,σ=[z])(hl:H lb=some (.lst ((fs.map FI.a).map V.ref)))(hf:∀z∈fs,z.at H)(hn:fs.length<=1000)(hj:∀z:FI,fC z.vals j=some (f z))(q:∀H',az H H'->Q (fs.map f) H') :
  f_ (AD K lb) (gQ 0) ul (CW (wq K) (EN 0) (tC (V.int j))) σ H Q:=by
 refine jn (as:=fs) (emb:=λz=>V.ref z.a) (f:=λz=>some (f z)) (λσ=>∃z,σ=[z]) h0 (λH' s=>?_) ⋯ ?_ ?_
 ·have:=s _ _ hl
  rw[Jf]at this;exact aW.of this
 ·rintro i z hz σ H' N1 N0 ⟨z0,rfl⟩ s k1 _
  walk_at "wp";exact⟨_,bc.of (s _ _ (hf z (IW hz)).1),_,hj z,k1 _ _ _ rfl s ⟨_,rfl⟩⟩
 ·intro H' s
  rw[rf fs (λz=>some (f z)) (g:=f) (λ_ _=>rfl)];exact q H' s
theorem FI.at.put{H:Hp}{l:Addr}{as:JY}{o:HO}{z:FI}(h:z.at H)(hl:H l=some (.lst (as.map V.ref))):z.at (aC H l o):=by
 obtain⟨h1,h2,h3,h4⟩:=h;refine⟨?_,h2.up (b0.put hl) _,?_,h4⟩
 ·rw[aj (λe=>by rw[e,hl]at h1;cases h1)];exact h1
 ·rw[aj (mY hl h3 h4)];exact h3
theorem y7{r:Nat×RV}{ys:List SI}(h:v4 r ys)(h6:∀y∈ys,∃r c,g7 y.p r c):ly r.1 (ys.map SI.p)/\dF r.1 r.2 (ys.map SI.p)≠none:=by
 obtain⟨k,v⟩:=r;rcases h with⟨e,rfl⟩ | ⟨e,x,rfl,_⟩ | ⟨e,x,y,rfl,_,_,hm⟩
 ·have e:k=0:=e
  subst e;exact⟨.cell,λh=>nomatch h⟩
 ·have e:k=3:=e
  subst e;obtain⟨r,c,h⟩:=h6 x (by simp);exact⟨.turn h,λh=>nomatch h⟩
 ·obtain⟨r,c,h⟩:=h6 x (by simp)
  obtain⟨r',c',h'⟩:=h6 y (by simp);have e:k=1\/k=2:=e;rcases e with rfl | rfl
  ·exact⟨.beside h h',hm⟩
  ·exact⟨.above h h',hm⟩
theorem BW{rs:Yaa}{r r':Nat×RV}{n:Nat}{ys:List SI}{M:Int}{pc:bC}(hn:rs[n]?=some r')(ar:oX r' r)(nx:v4 r ys)(gr:∀y∈ys,Gr rs y.d y.nm y.p y.c y.k)(mp:dF r.1 r.2 (ys.map SI.p)=some pc)
  (hM:(ys.map (λy=>(y.k:Int))=[]/\M=0)\/(M∈ys.map (λy=>(y.k:Int))/\∀a∈ys.map (λy=>(y.k:Int)),a<=M)):Gr rs (.tup (.int (n:Int)::ys.map SI.d)) r'.2.n pc (r'.2.c+(ys.map SI.c).sum) (M.toNat+1)/\0<=M:=by
 obtain⟨k',v'⟩:=r';obtain⟨k,v⟩:=r;have ek:k'=k:=ar.k;subst ek;rcases nx with⟨e,rfl⟩ | ⟨e,x,rfl,ho⟩ | ⟨e,x,y,rfl,ho1,ho2,_⟩
 ·have e:k'=0:=e
  subst e;rcases hM with⟨_,rfl⟩ | ⟨h,_⟩
  ·refine⟨?_,nofun⟩
   have e2:v'.sg=v.sg:=ar.sg rfl;have e3:some [v.sg]=some pc:=mp;cases e3;rw[<- e2];show Gr rs (.tup [.int (n:Int)]) v'.n [v'.sg] (v'.c+0) 1;rw[Int.add_zero];exact .cell hn
  ·exact nomatch h
 ·have e:k'=3:=e
  subst e;rcases hM with⟨h,_⟩ | ⟨h,_⟩
  ·exact nomatch h
  ·have h:M=(x.k:Int):=IU.mp h
   subst h;refine⟨?_,⋯⟩;have e2:v'.o1=v.o1:=ar.o1 (λe:3=0=>by cases e);have e4:v'.t=v.t:=ar.t rfl;have e3:some (turned x.p v.t.toNat)=some pc:=mp;cases e3;rw[<- e4];show Gr rs (.tup [.int (n:Int),x.d]) v'.n (turned x.p v'.t.toNat) (v'.c+(x.c+0)) (((x.k:Int)).toNat+1);rw[Int.add_zero,Ja];have g:=gr x (by simp);rw[show x.nm=v'.o1 from(e2.trans ho).symm]at g;exact .turn hn g
 ·have e:k'=1\/k'=2:=e
  have g1:=gr x (by simp);have g2:=gr y (by simp);have e1:v'.o1=v.o1:=ar.o1 (λe':k'=0=>by omega);have e2:v'.o2=v.o2:=ar.o2 e;rw[show x.nm=v'.o1 from(e1.trans ho1).symm]at g1;rw[show y.nm=v'.o2 from(e2.trans ho2).symm]at g2;have mp':dF k' v' [x.p,y.p]=some pc:=by rcases e with rfl | rfl<;>exact mp
  rcases hM with⟨h,_⟩ | ⟨h,hm⟩
  ·exact nomatch h
  ·have h1:=hm (x.k:Int) (by simp)
   have h2:=hm (y.k:Int) (by simp);have h3:M=(x.k:Int)\/M=(y.k:Int):=by simpa using h
   have h4:M.toNat=max x.k y.k:=by omega
   refine⟨?_,⋯⟩;rw[h4];show Gr rs (.tup [.int (n:Int),x.d,y.d]) v'.n pc (v'.c+(x.c+(y.c+0))) (max x.k y.k+1);rw[Int.add_zero];exact .pair e hn g1 g2 mp'
theorem uh{H:Hp}:∀{fs:List FI},(∀z∈fs,z.at H)->aU H ((fs.map FI.x).map SI.d) (fs.map FI.vt)
 | [],_=>aU.nil
 |z::fs,h=>aU.cons (h z (by simp)).2.1 (uh λy hy=>h y (by simp[hy]))
theorem qC{k:Nat}{v:RV}{ps:List bC}{pc:bC}(h:ly k ps)(m:dF k v ps=some pc)(g:gU v.sg=true):∃r c,g7 pc r c:=by
 cases h with
 |cell=>
  cases(show some [v.sg]=some pc from m);have:=iT g;exact⟨1,1,⟨rfl,λx hx=>by rw[IU.mp hx];exact this⟩,nofun,nofun,nofun,nofun⟩
 |beside h1 h2=>exact nw (.inl rfl) h1 h2 m
 |above h1 h2=>exact nw (.inr rfl) h1 h2 m
 | @turn p _ _ h=>cases(show some (turned p v.t.toNat)=some pc from m);exact ql h _
theorem br{c:Prop}[Decidable c]{A B:Prop}(hA:c->A)(hB:¬ c->B):if c then A else B:=by
 by_cases h:c
 ·rw[if_pos h];exact hA h
 ·rw[if_neg h];exact hB h
def Kp(H:Hp)(lr:Addr)(H':Hp):Prop:=∃H0,az H H0/\(H'=H0\/∃o,H'=aC H0 lr o)
theorem Kp.ne{H H':Hp}{lr a:Addr}{o:HO}(k:Kp H lr H')(h:H a=some o)(e:a≠lr):H' a=some o:=by
 obtain⟨H0,s,rfl | ⟨o',rfl⟩⟩:=k
 ·exact s _ _ h
 ·rw[aj e];exact s _ _ h
theorem Kp.fi{H H':Hp}{lr:Addr}{as:JY}{z:FI}(k:Kp H lr H')(hl:H lr=some (.lst (as.map V.ref)))(h:z.at H):z.at H':=by
 obtain⟨H0,s,rfl | ⟨o',rfl⟩⟩:=k
 ·exact h.up s
 ·exact(h.up s).put (s _ _ hl)
theorem Kp.st{H H':Hp}{lr:Addr}{as:JY}{bs:JY}{xs:List SI}(k:Kp H lr H')(hl:H lr=some (.lst (as.map V.ref)))(h:bG H bs xs):bG H' bs xs:=by
 obtain⟨H0,s,rfl | ⟨o',rfl⟩⟩:=k
 ·exact h.up s
 ·exact⟨h.1,λi a x e1 e2=>((h.2 i a x e1 e2).up s).put (s _ _ hl)⟩
theorem Kp.same{G H H':Hp}{lr:Addr}(k:Kp H lr H')(s0:az G H)(n:G lr=none):az G H':=by
 obtain⟨H0,s,rfl | ⟨o',rfl⟩⟩:=k
 ·exact s0.trans s
 ·exact bL (s0.trans s) n
theorem uY{c:TT}{t u:TS}{D:gY}{σ:St}{H:Hp}(h:∀t' u',t'=t->u'=u->Aw c t' u' D σ H):Aw c t u D σ H:=h t u rfl rfl
structure EF(p:bC)(sg:JV)(lr:Addr)(r r':Nat×RV)(n:Nat)(rs:Yaa)(ts':JY)(rs':Yaa)(H8 H9:Hp):Prop where
 rows:bV H9 lr ts' rs'
 at':rs'[n]?=some r'
 as':oX r' r
 ro:∀r∈rs',gR p sg r
 len:rs'.length<=24
 le1:rs'.length<=rs.length+1
 up:∀{d nm p c k},Gr rs d nm p c k->Gr rs' d nm p c k
 kp:Kp H8 lr H9
theorem zc{p:bC}{sg:JV}{H8:Hp}{lr t:Addr}{b:Bool}{ts:JY}{rs:Yaa}{r:Nat×RV}{Q:VK}{E:XK}(R:bV H8 lr ts rs)(hro:∀r∈rs,gR p sg r)(ht:H8 t=some (.tup (dX r)))(hr:gR p sg r)(h24:rs.length<=24)
  (q1:∀(n:Nat) r' ts' rs' H9,EF p sg lr r r' n rs ts' rs' H8 H9->Q (.int (n:Int)) H9) (q2:rs.length=24->∀H9,az H8 H9->Q .non H9):iG [.ref lr,.ref t,.bl b] H8 Q E:=by
 refine⟨lr,t,b,ts,rs,r,rfl,R,λx hx=>(hro x hx).good.k4,ht,hr.good.k4,h24,λk r' H' hk har s=>q1 k r' ts rs H' ⟨R.up s,hk,har,hro,h24,⋯,λh=>h,H',s,.inl rfl⟩,q2,λhlt H0 s=>q1 rs.length r (ts++[t]) (rs++[r]) _ ⟨(R.up s).app (s _ _ ht),by simp,oX.rfl' r,λx hx=>?_,by simp;omega,by simp,λh=>h.more r,H0,s,.inr ⟨_,rfl⟩⟩⟩;rcases Je.mp hx with h | h
 ·exact hro x h
 ·rw[IU.mp h];exact hr
theorem Ai(r:Nat×RV):fC (dX r) 2=some (.int r.2.c):=by
 obtain⟨k,v⟩:=r
 match k with
 |0=>rfl
 |1=>rfl
 |2=>rfl
 |k+3=>rfl
theorem Ae(r:Nat×RV):fC (dX r) 1=some (.str (tx r.2.n)):=by
 obtain⟨k,v⟩:=r
 match k with
 |0=>rfl
 |1=>rfl
 |2=>rfl
 |k+3=>rfl
theorem bV.keep{H:Hp}{l m:Addr}{ts:JY}{rs:Yaa}{us:List V}{o:HO}(h:bV H l ts rs)(hm:H m=some (.lst us))(e:l≠m):bV (aC H m o) l ts rs:=by
 obtain⟨h1,h2,h3⟩:=h;refine⟨by rw[aj e];exact h1,h2,λi t r e1 e2=>?_⟩;have h4:=h3 i t r e1 e2;rw[aj (λe=>by rw[e,hm]at h4;cases h4)];exact h4
theorem bG.add{H:Hp}{l np:Addr}{as:JY}{xs:List SI}{x:SI}{o:HO}{bs:JY}(h:bG H as xs)(hx:fK H np x)(hl:H l=some (.lst (bs.map V.ref))):bG (aC H l o) (as++[np]) (xs++[x]):=by
 refine⟨by simp[h.1],λi a y e1 e2=>?_⟩
 by_cases hi:i<as.length
 ·rw[Jm hi]at e1
  rw[Jm (by rw[<- h.1];exact hi)]at e2;exact(h.2 i a y e1 e2).put hl
 ·rw[Jl ⋯]at e1
  rw[Jl (by rw[<- h.1];omega),<- h.1]at e2;cases hj:i-as.length with
  |zero=>rw[hj]at e1 e2;cases e1;cases e2;exact hx.put hl
  |succ j=>rw[hj]at e1;simp at e1
def EG(H:Hp)(p:bC)(sg:JV)(lr ls:Addr)(n i:Nat)(H':Hp):Prop:=az H H'/\(∃ts rs,bV H' lr ts rs/\(∀r∈rs,gR p sg r)/\rs.length<=24/\∃as xs,H' ls=some (.lst (as.map V.ref))/\bG H' as xs/\(∀x∈xs,kx rs p x)/\(1<=i->xs≠[])/\(i=0->rs=[])/\xs.length<=i/\rs.length<=i)/\i<=n
noncomputable abbrev kU:Stmt:=eJ 60
inductive nk(vs:List V)(H:Hp)(Q:VK)(_E:XK):Prop
 |mk (lc b:Addr) (cells:List Int) (p:bC) (sg:JV) (most:Int) (_:vs=[.ref lc,.ref b,.str (tx sg),.int most]) (_:H lc=some (.lst (cells.map V.int))) (_:1<=cells.length) (_:cells.length<=100) (_:1<=most) (_:H b=some (.lst (aD p))) (_:p.length=4) (_:(∀r∈p,cA r=true)) (_:cU sg=true) (_:∀tp lr ls ts rs as xs H',H' tp=some (.tup [.ref lr,.ref ls])->bV H' lr ts rs->(∀r∈rs,gR p sg r)->rs.length<=24->rs.length<=cells.length->H' ls=some (.lst (as.map V.ref))->bG H' as xs->(∀x∈xs,kx rs p x)->xs≠[]->xs.length<=100->lr≠ls->H lr=none->H ls=none->az H H'->Q (.ref tp) H')
theorem we:aE ["_law_cells","_law_names_here","_law_signs_here","_law_most","_law_rules","_law_stock","_law_cell_here","_law_told_here","_law_below","_law_picture","_law_many","_law_deep","_law_number_here","_law_tree","_law_cost"] ["_law_cells","_law_names_here","_law_signs_here","_law_most"] (ak kU):=by walk_at "c"
theorem vp{f:Addr}{fd:J0}(F:cF K "_law_grown" "_law_grown" kU f fd)(nb:NB mg)(yat:mg "sum"=none)(zwd:cY P w K mg base bD 4 "_law_next" ["_law_stock","_law_cell_here","_law_names_here","_law_signs_here"] qo)(zEa:cY P w K mg base bD 3 "_law_put" ["_law_told_here","_law_pictures"] kP)(zYb:cY P w K mg base bD 1 "_law_number" ["_law_rules","_law_told_here","_law_again"] iG):bb P w K mg base bD 5 f fd ["_law_cells","_law_names_here","_law_signs_here","_law_most"] nk:=by
 have sc:=we;walk_at "f"
 ·obtain⟨lc,b,cells,p,sg,most,rfl,_⟩:=h;rfl
 ·obtain⟨lc,b,cells,p,sg,most,rfl,hlc,hc1,hc2,hm,hb,hp,hpn,hsg,q⟩:=h
  have hu:=hr.units;refine⟨_,(ag (aM (i:=4) sc.nd rfl (Or.inl rfl) (bw ad))
   (ag (aM (i:=5) sc.nd rfl (Or.inl rfl) (bw ad))
   (ag (bK PassesOwn.never rfl (c8 (am 0)) (aF (i:=6) sc.nd rfl (Or.inl rfl))
   (ag (iD (aO zwd (hr.mono nofun) rfl ba (aa (am 5) (aa (am 6) (aa (am 1) (aa (am 2) ad))))) (eF (n:=2) rfl (a_ (aF (i:=7) sc.nd rfl (Or.inl rfl)) (a_ (aF (i:=8) sc.nd rfl (Or.inl rfl)) cM))))
   (ag (aM (i:=9) sc.nd rfl (Or.inl rfl) (aO zEa (hr.mono nofun) rfl ba (aa (am 7) (aa (bO ["_law_one"] [] rfl (bu.of (by kernel_rfl)) (by kernel_rfl) (c8 (am 8))
    (λ_ _ _ _=>(aF (i:=0) (by show(["_law_one"]:List Str).Nodup;decide +kernel) rfl (Or.inl rfl))) (λ_ _ _ _=>bF) (λ_ _ _ _=>(ay (kD (K:=K) rfl) (am 0) af (λ_ _=>rfl)))) ad))))
   (ag (aM (i:=10) sc.nd rfl (Or.inl rfl) (aq (aZ.m0 bx) af (au (iV rfl) rfl yat rY (aa (bO ["_law_one"] [] rfl (bu.of (by kernel_rfl)) (by kernel_rfl) (c8 (am 8))
    (λ_ _ _ _=>(aF (i:=0) (by show(["_law_one"]:List Str).Nodup;decide +kernel) rfl (Or.inl rfl))) (λ_ _ _ _=>bF) (λ_ _ _ _=>(ay (kD (K:=K) rfl) (am 0) af (λ_ _=>rfl)))) ad))))
   (ag (aM (i:=11) sc.nd rfl (Or.inl rfl) (aq (aZ.m0 bx) af (Cw rfl rfl nb.max (aa (bO ["_law_one"] [] rfl (bu.of (by kernel_rfl)) (by kernel_rfl) (c8 (am 8))
    (λ_ _ _ _=>(aF (i:=0) (by show(["_law_one"]:List Str).Nodup;decide +kernel) rfl (Or.inl rfl))) (λ_ _ _ _=>bF) (λ_ _ _ _=>(ay (kD (K:=K) rfl) (am 0) af (λ_ _=>rfl)))) ad) (CD af Dk))))
   (ah (bd (PW.pt (jJ (aB (aZ.m0 oN) (aq (aZ.m1 fh) (au aQ rfl nb.len aR (aa (am 9) ad)) (au bf rfl nb.len aR (aa (ay aV (am 9) af (λ_ _=>rfl)) ad))) (am 3) (aI _)) (jJ (aB (aZ.m0 oN) (am 10) af (aI _)) (kO (aB (aZ.m0 oN) (am 11) af (aI _))))))
   (ag (aM (i:=12) sc.nd rfl (Or.inl rfl) (aO zYb (hr.mono nofun) rfl ba (aa (am 4) (aa (am 7) (aa (dS cz (aq (aZ.m1 aX) (aq (aZ.m1 bi) (am 6) af) af) af (aI _)) ad)))))
   (ah (bd (aB gy (am 12) bU (aI _))
   (ag (aM (i:=13) sc.nd rfl (Or.inl rfl) (aq b8 (aP (aa (am 12) ad)) (fZ ji rfl nb.tuple j_ (aa (bO ["_law_one"] [] rfl (bu.of (by kernel_rfl)) (by kernel_rfl) (c8 (am 8))
    (λ_ _ _ _=>(aF (i:=0) (by show(["_law_one"]:List Str).Nodup;decide +kernel) rfl (Or.inl rfl))) (λ_ _ _ _=>bF) (λ_ _ _ _=>(ay (kD (K:=K) rfl) (am 0) af (λ_ _=>rfl)))) ad))))
   (ag (aM (i:=14) sc.nd rfl (Or.inl rfl) (aq (aZ.m0 bx) (ay aA (ay aV (am 4) (am 12) (λ_ _=>rfl)) af (λ_ _=>rfl)) (au (iV rfl) rfl yat rY (aa (bO ["_law_one"] [] rfl (bu.of (by kernel_rfl)) (by kernel_rfl) (c8 (am 8))
    (λ_ _ _ _=>(aF (i:=0) (by show(["_law_one"]:List Str).Nodup;decide +kernel) rfl (Or.inl rfl))) (λ_ _ _ _=>bF) (λ_ _ _ _=>(ay (kD (K:=K) rfl) (am 0) af (λ_ _=>rfl)))) ad))))
   (ah (bJ (eO PySem.F.plainAttrs_list PySem.F.slot_list_append PySem.F.type_list_append cg (am 5) (aa (aP (aa (am 13) (aa (ay aA (ay aV (am 4) (am 12) (λ_ _=>rfl)) af (λ_ _=>rfl)) (aa (am 9) (aa (am 14) (aa (am 10) (aa (am 11) ad))))))) ad))))))
   aL)))
   aL)))))))
   (ah (aG (aP (aa (am 4) (aa (am 5) ad)))))))),?_⟩
  walk_at "n";refine⟨Jp _,λlr hlr=>h1 _ _ ?_⟩;walk_at "nc";refine⟨Jp _,λls hls=>h1 _ _ ?_⟩;walk_at "nc";have sA:=(ae (o:=.lst []) hlr).trans (ae (o:=.lst []) hls);refine⟨⟨_,aW.of (sA _ _ hlc)⟩,?_⟩;have flr:aC (aC H lr (.lst [])) ls (.lst []) lr=some (.lst []):=ae hls _ _ ac;have fls:aC (aC H lr (.lst [])) ls (.lst []) ls=some (.lst []):=ac;have hls0:H ls=none:=by
   by_cases e:ls=lr
   ·rw[e];exact hlr
   ·rwa [aj e]at hls
  have hne:lr≠ls:=λe=>by rw[<- e,ac]at hls;cases hls
  generalize aC (aC H lr (.lst [])) ls (.lst [])=H1 at sA flr fls ⊢;refine lB (xs:=cells.map V.int) (λi σ H'=>EG H p sg lr ls cells.length i H'/\∃z1 z2 z3 z4 z5 z6 z7 z8 z9,σ=[some (V.ref lc),some (V.ref b),some (V.str (tx sg)),some (V.int most),some (V.ref lr),some (V.ref ls),z1,z2,z3,z4,z5,z6,z7,z8,z9]) ⟨⟨sA,⟨[],[],⟨flr,rfl,λi t r e=>by simp at e⟩,λr hr=>(nomatch hr),by simp,[],[],fls,⟨rfl,λi a x e=>by simp at e⟩,λx hx=>(nomatch hx),λh=>absurd h nofun,λ_=>rfl,by simp,by simp⟩,Jp _⟩,_,_,_,_,_,_,_,_,_,rfl⟩ ?_ ?_ ?_
  ·rintro i σ H' _ ⟨⟨sm,_⟩,_⟩
   exact aW.of (sm _ _ hlc)
  ·rintro i x σ H' hx ⟨⟨sm,⟨ts,rs,R,hro,h24,as,xs,hst,hin,yab,hn1,hn0,hxl,hrl⟩,hi⟩,z1,z2,z3,z4,z5,z6,z7,z8,z9,rfl⟩
   rw[IV]at hx;obtain⟨c,hc,rfl⟩:=Js.mp hx;have hi1:i<cells.length:=(IR.mp hc).1;have hsr:∀x∈xs,x.nm∈p/\∃r c,g7 x.p r c:=λx hx=>⟨(yab x hx).nm,(yab x hx).gr.pic6 (λr hr=>(hro r hr).good)⟩;walk_at "o";refine⟨ls,b,c,as,xs,p,sg,rfl,hst,hin,sm _ _ hb,hp,hpn,hsg,hsr,⋯,λtp t lb r bs ys H2 htp ht hr0 hlb hin2 hys hnx hlb0 s2=>?_⟩;refine⟨tp,rfl,_,bc.of htp,rfl,_,_,rfl,_,_,rfl,rfl,h2 _ _ ?_⟩;clear h2;obtain⟨fs,rfl,rfl,hfs⟩:=hin2.full;have hfl:fs.length<=2:=by rw[<- IT (f:=FI.x)];rcases hnx with⟨_,e⟩ | ⟨_,x,e,_⟩ | ⟨_,x,y,e,_⟩<;>(rw[e];simp)
   walk_at "o";refine⟨⟨_,aW.of hlb⟩,?_⟩;refine e_ ⟨_,rfl⟩ hlb hfs ⋯ (f:=λz=>V.ref z.lp) (λ_=>rfl) λH3 s3=>?_;have h6:∀y∈fs.map FI.x,∃r c,g7 y.p r c:=λy hy=>(hsr y (hys y hy)).2;obtain⟨hfit,hmade⟩:=y7 hnx h6;obtain⟨pc,hpc⟩:=Option.ne_none_iff_exists'.mp hmade;refine λpl hpl=>⟨t,pl,r,fs.map FI.lp,(fs.map FI.x).map SI.p,rfl,ae hpl _ _ (s3 _ _ ht),hr0.good.k4,hr0.good.good.t0,hr0.good.good.t7,⟨by rw[ac,Jf];rfl,by simp,λi h1 h2=>?_⟩,hfit,λpc' hpc' lq H4 hlq s4=>h2 _ _ ?_,λe=>absurd e hmade⟩
   ·simp only[List.getElem_map]
    exact ae hpl _ _ (s3 _ _ (hfs _ (I_ _)).2.2.1)
   clear h2;rw[hpc]at hpc';cases hpc';have s5:az H2 H4:=(s3.trans (ae hpl)).trans s4;have hlb4:=s5 _ _ hlb;have hfs4:∀z∈fs,z.at H4:=λz hz=>(hfs z hz).up s5;walk_at "o";refine⟨⟨_,aW.of hlb4⟩,?_⟩;refine e_ ⟨_,rfl⟩ hlb4 hfs4 ⋯ (f:=λz=>V.int z.x.m) (λ_=>rfl) λH5 s6=>?_;refine λl1 hl1=>⟨fs.map (λz=>z.x.m),by rw[Jf];exact aW.of ac,h2 _ _ ?_⟩;clear h2;have s7:=s5.trans (s6.trans (ae (o:=.lst (fs.map (λz=>V.int z.x.m))) hl1));have hlq7:=(s6.trans (ae (o:=.lst (fs.map (λz=>V.int z.x.m))) hl1)) _ _ hlq;generalize aC H5 l1 (.lst (fs.map (λz=>V.int z.x.m)))=H6 at s7 hlq7 ⊢;obtain⟨many,hmany⟩:∃m,1+(fs.map (λz=>z.x.m)).sum=m:=⟨_,rfl⟩;rw[hmany];clear s6 hl1 hlb4 hfs4 s5 hlq;have hlb6:=s7 _ _ hlb;have hfs6:∀z∈fs,z.at H6:=λz hz=>(hfs z hz).up s7;walk_at "o";refine⟨⟨_,aW.of hlb6⟩,?_⟩;refine e_ ⟨_,rfl⟩ hlb6 hfs6 ⋯ (f:=λz=>V.int (z.x.k:Int)) (λ_=>rfl) λH7 s8=>?_;refine λl2 hl2=>⟨fs.map (λz=>(z.x.k:Int)),by rw[Jf];exact aW.of ac,λM hM=>h2 _ _ ?_⟩;clear h2;have s9:=s7.trans (s8.trans (ae (o:=.lst (fs.map (λz=>V.int (z.x.k:Int)))) hl2));have hlq9:=(s8.trans (ae (o:=.lst (fs.map (λz=>V.int (z.x.k:Int)))) hl2)) _ _ hlq7;generalize aC H7 l2 (.lst (fs.map (λz=>V.int (z.x.k:Int))))=H8 at s9 hlq9 ⊢;clear s8 hl2 hlb6 hfs6 s7 hlq7;have hx0:xs=[]->fs=[]/\r.1=0:=λe=>by
    have hf0:fs=[]:=by
     cases fs with
     |nil=>rfl
     |cons z fs=>have:=hys z.x (by simp);rw[e]at this;exact nomatch this
    refine⟨hf0,?_⟩;rw[hf0]at hnx;rcases hnx with⟨e,_⟩ | ⟨_,x,e,_⟩ | ⟨_,x,y,e,_⟩
    ·exact e
    ·cases e
    ·cases e
   obtain⟨pr,pcc,pc6⟩:=qC hfit hpc hr0.good.good.sg;have s10:=s2.trans s9;have sH8:=sm.trans s10;have keep:xs≠[]->EG H p sg lr ls cells.length (i+1) H8:=λhx=>⟨sH8,⟨ts,rs,R.up s10,hro,h24,as,xs,s10 _ _ hst,hin.up s10,yab,λ_=>hx,λh=>absurd h ⋯,⋯,⋯⟩,hi1⟩;have hpl:0<pc.length:=by rw[pc6.rc.1];exact pc6.r0
   have hrow:fC (aD pc) 0=some (V.str (tx pc[0])):=aT (j:=0) (bh hpl);have hr0l:(pc[0]).length=pcc:=pc6.rc.2 _ (I_ hpl);have hprl:(aD pc).length=pr:=by rw[av,pc6.rc.1]
   have hrl0:(tx pc[0]).length=pcc:=by rw[aH,hr0l]
   have b1:=pc6.r6;have b2:=pc6.c6;refine uY λtb1 tb2 e1 e2=>?_;walk_at "wp";refine⟨_,aW.of hlq9,_,aW.of hlq9,_,hrow,_,rfl,by rw[hrl0];exact ai ⋯,.inl (by rw[hprl];omega),?_⟩;rw[hprl,hrl0];have yaL:xs=[]->(pr:Int)*(pcc:Int)<=most/\many<=60/\1+M<=18:=λe=>by
    obtain⟨e1,e2⟩:=hx0 e;subst e1;have e3:dF 0 r.2 []=some pc:=by rw[<- e2];exact hpc
    cases(show some [r.2.sg]=some pc from e3);have e4:pr=1:=pc6.rc.1.symm;have e5:pcc=1:=hr0l.symm.trans (iT hr0.good.good.sg);subst e4 e5;refine⟨⋯,by rw[<- hmany];decide,?_⟩;rcases hM with⟨_,rfl⟩ | ⟨h,_⟩
    ·decide
    ·exact nomatch h
   refine br (λt1=>?_) (λt1=>by rw[e2];walk_at "wp";exact keep λe=>t1 (yaL e).1);refine br (λt2=>?_) (λt2=>by rw[e2];walk_at "wp";exact keep λe=>t2 (yaL e).2.1);refine br (λt3=>?_) (λt3=>by rw[e2];walk_at "wp";exact keep λe=>t3 (yaL e).2.2);rw[e1];clear e1 e2;have hlb8:=s9 _ _ hlb;have hfs8:∀z∈fs,z.at H8:=λz hz=>(hfs z hz).up s9;have hM':((fs.map FI.x).map (λy=>(y.k:Int))=[]/\M=0)\/(M∈(fs.map FI.x).map (λy=>(y.k:Int))/\∀a∈(fs.map FI.x).map (λy=>(y.k:Int)),a<=M):=by
    rw[Jf];exact hM
   have R8:=R.up s10;have st8:=s10 _ _ hst;have in8:=hin.up s10;refine ao λN3 h3=>?_;walk_at "wp";refine zc R8 hro (s9 _ _ ht) hr0 h24 (λn r' ts' rs' H9 N=>h3 _ _ ?_) λhe H9 s11=>h3 _ _ ?_
   ·clear h3
    refine uY λtb1 tb2 e1 e2=>?_;walk_at "wp";refine br (λ_=>?_) (λe=>absurd (λe=>by cases e) e);rw[e1];clear e1 e2;have hlbr:lb≠lr:=λe=>by rw[e,R.1]at hlb0;cases hlb0
    have hlb9:=N.kp.ne hlb8 hlbr;have hfs9:∀z∈fs,z.at H9:=λz hz=>N.kp.fi R8.1 (hfs8 z hz);refine ao λN4 h4=>?_;walk_at "wp";refine⟨ai nofun,λp1 hp1=>⟨⟨_,aW.of (ae hp1 _ _ hlb9)⟩,?_⟩⟩;have e9:aC H9 p1 (.tup [V.int (n:Int)]) p1=some (.tup [V.int (n:Int)]):=ac;have s9':=ae (o:=.tup [V.int (n:Int)]) hp1;generalize aC H9 p1 (.tup [V.int (n:Int)])=H10 at e9 s9' ⊢;refine e_ ⟨_,rfl⟩ (s9' _ _ hlb9) (λz hz=>(hfs9 z hz).up s9') ⋯ (f:=λz=>z.vt) (λ_=>rfl) λH11 s11=>?_;intro l3 hl3;refine⟨_,.inl ⟨aW.of ac,λl4 hl4=>?_⟩⟩;have sB:=(ae (o:=.lst (fs.map FI.vt)) hl3).trans (ae (o:=.tup (fs.map FI.vt)) hl4);refine dh (ae hl4 _ _ (ae hl3 _ _ (s11 _ _ e9))) ac (by simp) (by simp;omega) λtr H12 htr s12=>h4 _ _ ?_;clear h4;refine ao λN5 h5=>?_;walk_at "wp";have sC:=s9'.trans (s11.trans (sB.trans s12));have R12:=N.rows.up sC;obtain⟨tn,htn⟩:∃tn,ts'[n]?=some tn:=⟨_,IQ (by have:=(IR.mp N.at').1;have:=N.rows.2.1;omega)⟩;have eat:fC (ts'.map V.ref) (n:Int)=some (V.ref tn):=aT (by rw[IV,htn];rfl);have ya0:=R12.2.2 n tn r' htn N.at';refine⟨_,aW.of R12.1,_,eat,_,rfl,_,bc.of ya0,_,Ai r',⟨_,aW.of (sC _ _ hlb9)⟩,?_⟩;refine e_ ⟨_,rfl⟩ (sC _ _ hlb9) (λz hz=>(hfs9 z hz).up sC) ⋯ (f:=λz=>V.int z.x.c) (λ_=>rfl) λH13 s13=>?_;intro l5 hl5;have s14:=s13.trans (ae (o:=.lst (fs.map (λz=>V.int z.x.c))) hl5);have e14:aC H13 l5 (.lst (fs.map (λz=>V.int z.x.c))) l5=some (.lst ((fs.map (λz=>z.x.c)).map V.int)):=by rw[ac,Jf];rfl
    generalize aC H13 l5 (.lst (fs.map (λz=>V.int z.x.c)))=H14 at s14 e14 ⊢;have st9:=N.kp.ne st8 hne.symm;have st14:=s14 _ _ (sC _ _ st9);have R14:=R12.up s14;have sD:=sC.trans s14;have sH9:=N.kp.same sH8 hlr;have hsum:(fs.map (λz=>z.x.c)).sum=((fs.map FI.x).map SI.c).sum:=by rw[Jf];rfl
    refine⟨_,aW.of e14,_,rfl,h5 _ _ ?_⟩;clear h5;walk_at "wp";refine⟨.inl ⟨rfl,_,aW.of st14⟩,_,aW.of R14.1,_,eat,_,rfl,_,bc.of (s14 _ _ ya0),_,Ae r',ai nofun,λnp hnp=>⟨_,ae hnp _ _ st14,?_,?_⟩⟩
    ·rw[IT,hin.1];exact bp ⋯
    rw[hsum];obtain⟨gr,hM0⟩:=BW N.at' N.as' hnx (λy hy=>N.up (yab y (hys y hy)).gr) hpc hM';have hk:(1+M:Int)=((M.toNat+1:Nat):Int):=by omega
    rw[hk];have sE:=ae (o:=.tup [V.ref tr,V.str (tx r'.2.n),V.ref lq,V.int (r'.2.c+((fs.map FI.x).map SI.c).sum),V.int many,V.int ((M.toNat+1:Nat):Int)]) hnp;have eN:aC H14 np (.tup [V.ref tr,V.str (tx r'.2.n),V.ref lq,V.int (r'.2.c+((fs.map FI.x).map SI.c).sum),V.int many,V.int ((M.toNat+1:Nat):Int)]) np=some (.tup [V.ref tr,V.str (tx r'.2.n),V.ref lq,V.int (r'.2.c+((fs.map FI.x).map SI.c).sum),V.int many,V.int ((M.toNat+1:Nat):Int)]):=ac;generalize aC H14 np (.tup [V.ref tr,V.str (tx r'.2.n),V.ref lq,V.int (r'.2.c+((fs.map FI.x).map SI.c).sum),V.int many,V.int ((M.toNat+1:Nat):Int)])=H15 at sE eN ⊢;have sF:=sD.trans sE;have st15:=sE _ _ st14;have in15:bG H15 as xs:=(N.kp.st R8.1 in8).up sF;have hpcn:pc≠[]:=λe=>by rw[e]at hpl;cases hpl
    have item:fK H15 np ⟨.tup (.int (n:Int)::(fs.map FI.x).map SI.d),r'.2.n,pc,r'.2.c+((fs.map FI.x).map SI.c).sum,many,M.toNat+1⟩:=
     ⟨V.ref tr,lq,eN,bH.node (sE _ _ (s14 _ _ htr)) (uh λz hz=>(hfs9 z hz).up sF),sF _ _ (N.kp.ne hlq9 (mY R8.1 hlq9 hpcn)),hpcn⟩
    have stk:=in15.add (o:=.lst (as.map V.ref++[V.ref np])) item st15;refine⟨bL (sH9.trans sF) hls0,⟨ts',rs',(R14.up sE).keep st15 hne,N.ro,N.len,as++[np],_,by rw[ac,Jd];rfl,stk,λx hx=>?_,λ_=>by simp,λh=>absurd h ⋯,by simp;omega,by have:=N.le1;omega⟩,hi1⟩;rcases Je.mp hx with h | h
    ·exact⟨N.up (yab x h).gr,(yab x h).nm,(yab x h).k1,(yab x h).m1,(yab x h).m2⟩
    ·rw[IU.mp h]
     refine⟨gr,(N.ro _ (IW N.at')).n,by show M.toNat+1<=18;omega,?_,t2⟩;have e:=yh (fs.map FI.x) λy hy=>(yab y (hys y hy)).m1;rw[Jf]at e;have e1:kY (.int (n:Int))=1:=by unfold kY;rfl
     have e2:kY (.tup (.int (n:Int)::(fs.map FI.x).map SI.d))=kY (.int (n:Int))+jd ((fs.map FI.x).map SI.d):=by rw[kY,jd]
     show many=(kY (.tup (.int (n:Int)::(fs.map FI.x).map SI.d)):Int);rw[e2,e1,Int.natCast_add,Jf,e,<- hmany];have e3:fs.map (λz=>z.x.m)=(fs.map FI.x).map SI.m:=by rw[Jf];rfl
     rw[e3]
     rfl
   ·clear h3
    refine uY λtb1 tb2 e1 e2=>?_;walk_at "wp";rw[e2];walk_at "wp";have sx:=s10.trans s11;exact⟨sm.trans sx,⟨ts,rs,R.up sx,hro,h24,as,xs,sx _ _ hst,hin.up sx,yab,λ_ e=>by(by_cases h0:i=0;rw[hn0 h0]at he;cases he;exact hn1 ⋯ e),λh=>absurd h ⋯,⋯,⋯⟩,hi1⟩
  ·rintro σ H' ⟨⟨sm,⟨ts,rs,R,hro,h24,as,xs,hst,hin,yab,hn1,hn0,hxl,hrl⟩,hi⟩,z1,z2,z3,z4,z5,z6,z7,z8,z9,rfl⟩
   refine h1 _ _ ?_;walk_at "wp";rw[IT]at hn1 hxl hrl;exact⟨ai nofun,λtp htp=>q tp lr ls ts rs as xs _ ac (R.up (ae htp)) hro h24 hrl (ae htp _ _ hst) (hin.up (ae htp)) yab (hn1 hc1) ⋯ hne hlr hls0 (sm.trans (ae htp))⟩
noncomputable abbrev io:Stmt:=eJ 61
inductive j7(R:RC)(CG:Addr)(vs:List V)(H:Hp)(Q:VK)(_E:XK):Prop
 |mk (l b:Addr) (p:bC) (sg st:JV) (ts:JY) (rs:Yaa) (_:vs=[.ref l,.ref b,.str (tx sg)]) (_:bV H l ts rs) (_:(∀r∈rs,iw r)) (_:rs.length<=24) (_:H b=some (.lst (aD p))) (_:p[0]?=some st) (_:sg.length<=100) (_:st.length<=100) (_:iB sg st rs=none) (_:∀b db as H',hV R H' CG db b sg st as rs->az H H'->Q (.ref b) H')
theorem tm:aE ["_law_rules","_law_names_here","_law_signs_here"] ["_law_rules","_law_names_here","_law_signs_here"] (ak io):=by walk_at "c"
theorem rA{R:RC}{f CG zaa:Addr}{fd:J0}(F:cF K "_law_grammar" "_law_grammar" io f fd)(nb:NB mg)(gk:F8 K CG)(zab:cY P w K mg base bD 6 "_law_rule_made" ["_law_told_here"] (lz R))(zZb:oj P w K mg base (dz P w) 4 "Grammar" CG ["self","signs","start","rules"] (ge K R zaa)):bb P w K mg base bD 7 f fd ["_law_rules","_law_names_here","_law_signs_here"] (j7 R CG):=by
 have sc:=tm;walk_at "f"
 ·obtain⟨l,b,p,sg,st,ts,rs,rfl,_⟩:=h;rfl
 ·obtain⟨l,b,p,sg,st,ts,rs,rfl,o,hg,hn,hb,hp0,hsg,hst,g0,q⟩:=h
  refine⟨_,(ah (aG (j9 (CX:=dz P w) zZb (hr.mono nofun) rfl ck (aa (pv 2) (aa (ay kj (pv 1) af (λ_ _=>rfl)) (aa (bO ["_law_told_here"] [] rfl (bu.of (by kernel_rfl)) (by kernel_rfl) (c8 (pv 0))
    (λ_ _ _ _=>(aF (i:=0) (by show(["_law_told_here"]:List Str).Nodup;decide +kernel) rfl (Or.inl rfl))) (λ_ _ _ _=>bF) (λ_ _ _ _=>(aO zab (hr.mono nofun) rfl ba (aa (pv 0) ad)))) ad)))))),?_⟩
  walk_at "wp";have h0:fC (aD p) 0=some (V.str (tx st)):=(show fC _ ((0:Nat):Int)=_ from aT (by unfold aD;rw[IV,hp0];rfl));refine⟨_,aW.of hb,_,h0,⟨_,aW.of o.1⟩,wa o hg ⋯ λas H2 s2 hA lr hlr x dx hx hdx hne=>?_⟩;have s3:az H2 (aC H2 lr (.lst (as.map V.ref))):=ae hlr;have e3:aC H2 lr (.lst (as.map V.ref)) lr=some (.lst (as.map V.ref)):=ac;generalize aC H2 lr (.lst (as.map V.ref))=H3 at s3 e3 hx hdx ⊢;have sm4:az H3 (aC (aC H3 dx (.own x)) x (.ins CG dx [])):=(ae hdx).trans (ae (by rw[aj (Ne.symm hne)];exact hx));refine⟨x,CG,dx,lr,sg,st,as,rs,rfl,ac,gk.cl.cl,gk.na,⋯,⋯,sm4 _ _ e3,(hA.up s3).up sm4,λr hr=>(hg r hr).k4,⋯,(λ_ H4 lk pn t sx gA _ _ _=>⟨rfl,?_⟩),λy hy=>nomatch hy.symm.trans g0⟩;exact q x dx _ H4 gA.f ((s2.trans s3).trans λb u e=>sx b u (aJ e hx) (sm4 b u e))
noncomputable abbrev k_:Stmt:=eJ 62
inductive nW(K:W.Frag)(R:RC)(CG:Addr)(vs:List V)(H:Hp)(Q:VK)(_E:XK):Prop
 |mk (a:Addr) (ns:List Int) (most yar:Int) (_:vs=[.ref a,.int most,.int yar]) (_:aW K H a (ns.map V.int)) (_:1<=most) (_:0<=yar) (_:yar<=19) (_:∀tp lr ls gr gd ga ts rs p sg st as xs H',H' tp=some (.tup [.ref lr,.ref ls,.ref gr])->bV H' lr ts rs->(∀r∈rs,gR p sg r)->rs.length<=24->p.length=4->(∀r∈p,cA r=true)->cU sg=true->p[0]?=some st->H' ls=some (.lst (as.map V.ref))->bG H' as xs->(∀x∈xs,kx rs p x)->xs≠[]->xs.length<=100->hV R H' CG gd gr sg st ga rs->az H H'->Q (.ref tp) H')
theorem vg:aE ["_law_script","_law_most","_law_steps","_law_names_here","_law_signs_here","_law_many","_law_cells","_law_rules","_law_stock","_law_k"] ["_law_script","_law_most","_law_steps"] (ak k_):=by walk_at "c"
theorem wg{R:RC}{f CG:Addr}{fd:J0}(F:cF K "_law_drawn" "_law_drawn" k_ f fd)(nb:NB mg)(zla:cY P w K mg base bD 1 "_law_cell" ["_law_script","_law_k"] (lP K))(zIc:cY P w K mg base bD 1 "_law_names" ["_law_cell_here"] nG)(zJc:cY P w K mg base bD 1 "_law_signs" ["_law_cell_here","_law_most"] nn)(zxa:cY P w K mg base bD 1 "_law_drawn_rule" ["_law_cell_here","_law_names_here","_law_signs_here"] eH)(zKc:cY P w K mg base bD 5 "_law_grown" ["_law_cells","_law_names_here","_law_signs_here","_law_most"] nk)(zBb:cY P w K mg base bD 7 "_law_grammar" ["_law_rules","_law_names_here","_law_signs_here"] (j7 R CG)):bb P w K mg base bD 8 f fd ["_law_script","_law_most","_law_steps"] (nW K R CG):=by
 have sc:=vg;walk_at "f"
 ·obtain⟨a,ns,most,yar,rfl,_⟩:=h;rfl
 ·obtain⟨a,ns,most,yar,rfl,ha,hm,hs0,hs19,q⟩:=h
  refine⟨_,(ag (aM (i:=3) sc.nd rfl (Or.inl rfl) (aO zIc (hr.mono nofun) rfl ba (aa (aO zla (hr.mono nofun) rfl ba (aa (am 0) (bB ad))) ad)))
   (ag (aM (i:=4) sc.nd rfl (Or.inl rfl) (aO zJc (hr.mono nofun) rfl ba (aa (aO zla (hr.mono nofun) rfl ba (aa (am 0) (bB ad))) (bB ad))))
   (ag (aM (i:=5) sc.nd rfl (Or.inl rfl) (aq (aZ.m1 aX) (aO zla (hr.mono nofun) rfl ba (aa (am 0) (bB ad))) (aq (aZ.m0 bx) (am 2) af)))
   (ag (aM (i:=6) sc.nd rfl (Or.inl rfl) (aq rO (bw (aa (aq (aZ.m1 fh) (aq (aZ.m1 bi) (aO zla (hr.mono nofun) rfl ba (aa (am 0) (bB ad))) af) af) ad)) (bO ["_law_k"] [0] rfl (bu.of (by kernel_rfl)) (by kernel_rfl) (bW rfl nb.range (aa (am 5) ad))
    (λ_ _ _ _=>(aF (i:=0) (by show(["_law_k","_law_script"]:List Str).Nodup;decide +kernel) rfl (Or.inl rfl))) (λ_ _ _ _=>bF) (λ_ _ _ _=>(aO zla (hr.mono nofun) rfl ba (aa (am 1) (aa (aq (aZ.m0 bx) af (am 0)) ad)))))))
   (ag (iD (aO zKc (hr.mono nofun) rfl ba (aa (am 6) (aa (am 3) (aa (am 4) (aa (am 1) ad))))) (eF (n:=2) rfl (a_ (aF (i:=7) sc.nd rfl (Or.inl rfl)) (a_ (aF (i:=8) sc.nd rfl (Or.inl rfl)) cM))))
   (ag (bK PassesOwn.never rfl (bW rfl nb.range (aa (aq (aZ.m1 aX) (aq (aZ.m1 bi) (aO zla (hr.mono nofun) rfl ba (aa (am 0) (bB ad))) af) af) ad)) (aF (i:=9) sc.nd rfl (Or.inl rfl))
   (ah (bJ (eO PySem.F.plainAttrs_list PySem.F.slot_list_append PySem.F.type_list_append cg (am 7) (aa (aO zxa (hr.mono nofun) rfl ba (aa (aO zla (hr.mono nofun) rfl ba (aa (am 0) (aa (aq (aZ.m0 bx) af (am 9)) ad))) (aa (am 3) (aa (am 4) ad)))) ad)))))
   (ah (aG (aP (aa (am 7) (aa (am 8) (aa (aO zBb (hr.mono nofun) rfl ba (aa (am 7) (aa (am 3) (aa (am 4) ad)))) ad)))))))))))),?_⟩
  walk_at "n";refine⟨a,ns,0,rfl,ha,⋯,λc0=>⟨c0,rfl,λb p H1 hb0 hb hp hpn s1=>h1 _ _ ?_⟩⟩;walk_at "nc";refine⟨a,ns,1,rfl,s1.seq ha,⋯,λc1=>⟨c1,rfl,λsg H2 hsg s2=>h1 _ _ ?_⟩⟩;clear h1;have s02:=s1.trans s2;walk_at "n";refine⟨a,ns,7,rfl,s02.seq ha,⋯,λc7=>⟨c7,rfl,⋯,h1 _ _ ?_⟩⟩;clear h1;obtain⟨mn,hmn⟩:∃mn:Nat,c7%(yar+1)=(mn:Int):=⟨_,(JN (JL _ ⋯)).symm⟩;have hmn2:mn<=19:=by have:=JM c7 (b:=yar+1) ⋯;omega
  rw[hmn];walk_at "n";refine⟨a,ns,2,rfl,s02.seq ha,⋯,λc2=>?_⟩;walk_at "wp";refine⟨ai nofun,λp0 hp0=>⟨⋯,⋯,?_⟩⟩;have s3:=ae (o:=.lst [V.int (c2/8*8)]) hp0;have e3:aC H2 p0 (.lst [V.int (c2/8*8)]) p0=some (.lst [V.int (c2/8*8)]):=ac;generalize aC H2 p0 (.lst [V.int (c2/8*8)])=H3 at s3 e3 ⊢;have s03:=s02.trans s3;rw[Ja];refine gv (λi acc σ H'=>az H3 H'/\i<=mn/\(∃cs:List Int,acc=cs.map V.int/\cs.length=i)/\∃z,σ=[z,some (V.ref a)]) ⟨λ_ _ e=>e,Jp _,⟨[],rfl,rfl⟩,_,rfl⟩ ?_ (λi acc σ H' h=>h.2.1) ?_ ?_
  ·rintro i acc σ H' ⟨_,hi,⟨cs,rfl,hc⟩,_⟩
   rw[IT,hc];exact bp ⋯
  ·rintro i acc σ H' hi ⟨sm,_,⟨cs,rfl,hc⟩,z,rfl⟩
   walk_at "wp";exact⟨a,ns,8+i,by simp,(s03.trans sm).seq ha,⋯,λc=>⟨sm,hi,⟨cs++[c],by simp,by simp[hc]⟩⟩⟩
  rintro acc σ H4 ⟨s4,_,⟨cs,rfl,hc⟩,_⟩;intro l1 hl1;refine⟨_,ae hl1 _ _ (s4 _ _ e3),_,ac,?_,λlc hlc=>h1 _ _ ?_⟩
  ·rw[IT,hc];exact ai (by simp;omega)
  clear h1;have s5:=s4.trans ((ae (o:=.lst (cs.map V.int)) hl1).trans (ae (o:=.lst ([V.int (c2/8*8)]++cs.map V.int)) hlc));have e5:aC (aC H4 l1 (.lst (cs.map V.int))) lc (.lst ([V.int (c2/8*8)]++cs.map V.int)) lc=some (.lst ((c2/8*8::cs).map V.int)):=ac;generalize aC (aC H4 l1 (.lst (cs.map V.int))) lc (.lst ([V.int (c2/8*8)]++cs.map V.int))=H5 at s5 e5 ⊢;have s05:=s03.trans s5;have hb5:=s5 _ _ (s3 _ _ (s2 _ _ hb));walk_at "n";refine⟨lc,b,_,p,sg,most,rfl,e5,by simp,by simp;omega,hm,hb5,hp,hpn,hsg,λtp lr ls ts rs as xs H6 htp hR hro h24 hcl hst hin yab hx0 hxl hne hlr hls s6=>⟨tp,rfl,_,bc.of htp,rfl,_,_,rfl,_,_,rfl,rfl,h1 _ _ ?_⟩⟩;clear h1;have s06:=s05.trans s6;have hlr0:=eQ s05 hlr;have hls0:=eQ s05 hls;have hcl':rs.length<=20:=by simp at hcl;omega
  walk_at "n";refine⟨a,ns,7,rfl,s06.seq ha,⋯,λc7'=>⟨c7',rfl,?_⟩⟩;obtain⟨ex,hex⟩:∃ex:Nat,c7'/17%5=(ex:Int):=⟨_,(JN (JL _ ⋯)).symm⟩;have hex2:ex<=4:=by have:=JM (c7'/17) (b:=5) ⋯;omega
  rw[hex,Ja];refine⟨⋯,⋯,?_⟩;have hb6:=s6 _ _ hb5;refine dJ (λi σ H'=>az H H'/\H' b=some (.lst (aD p))/\(∃ts rs,bV H' lr ts rs/\(∀r∈rs,gR p sg r)/\rs.length<=20+i/\H' ls=some (.lst (as.map V.ref))/\bG H' as xs/\(∀x∈xs,kx rs p x))/\∃z,σ=[some (V.ref a),some (V.int most),some (V.int yar),some (V.ref b),some (V.str (tx sg)),some (V.int (mn:Int)),some (V.ref lc),some (V.ref lr),some (V.ref ls),z]) ⟨s06,hb6,⟨ts,rs,hR,hro,hcl',hst,hin,yab⟩,_,rfl⟩ ?_ ?_
  ·rintro i σ H' hi ⟨sm,hb',⟨ts,rs,hR,hro,hrl,hst,hin,yab⟩,z,rfl⟩
   walk_at "wp";refine⟨.inl ⟨rfl,_,aW.of hR.1⟩,a,ns,24+i,by simp,sm.seq ha,⋯,λc=>⟨c,b,p,sg,rfl,hb',hp,hpn,hsg,λt r H7 hr0 ht _ s7=>?_⟩⟩;have hR7:=hR.up s7;have hlb:b≠lr:=λe=>by rw[e,hlr]at hb5;cases hb5
   refine⟨_,hR7.1,by rw[IT,hR.2.1];exact bp ⋯,?_⟩;refine⟨bL (sm.trans s7) hlr0,by rw[aj hlb];exact s7 _ _ hb',ts++[t],rs++[r],hR7.app ht,λx hx=>?_,by simp;omega,by rw[aj hne.symm];exact s7 _ _ hst,⟨hin.1,λi a x e1 e2=>((hin.2 i a x e1 e2).up s7).put hR7.1⟩,λx hx=>(yab x hx).more r⟩;rcases Je.mp hx with h | h
   ·exact hro x h
   ·rw[IU.mp h];exact hr0
  rintro σ H7 ⟨sm,hb',⟨ts,rs,hR,hro,hrl,hst,hin,yab⟩,z,rfl⟩;refine h1 _ _ ?_;walk_at "wp";have hp0:p[0]?=some (p[0]'⋯):=IQ ⋯;have hstl:=iR (hpn _ (I_ (show 0<p.length by omega)));have hsl:=jI hsg;refine⟨lr,b,p,sg,_,ts,rs,rfl,hR,λr hr=>(hro r hr).good,⋯,hb',hp0,⋯,⋯,yi hsg (I_ _) hpn ⋯ ⋯ hro,λgr gd ga H8 g8 s8=>⟨ai nofun,λtq htq=>?_⟩⟩;have s9:=s8.trans (ae (o:=.tup [V.ref lr,V.ref ls,V.ref gr]) htq);exact q tq lr ls gr gd ga ts rs p sg _ as xs _ ac (hR.up s9) hro ⋯ hp hpn hsg hp0 (s9 _ _ hst) (hin.up s9) yab hx0 hxl (g8.up (ae htq)) (sm.trans s9)
inductive aK where
 |n0:Int->aK
 |n1:Int->aK->aK
 |n2:Int->aK->aK->aK
noncomputable def aK.i:aK->Int
 | .n0 i=>i
 | .n1 i _=>i
 | .n2 i _ _=>i
noncomputable def aK.ps:aK->List aK
 | .n0 _=>[]
 | .n1 _ a=>[a]
 | .n2 _ a b=>[a,b]
noncomputable def aK.d:aK->Dt
 | .n0 i=>.tup [.int i]
 | .n1 i a=>.tup [.int i,a.d]
 | .n2 i a b=>.tup [.int i,a.d,b.d]
noncomputable def aK.cnt:aK->Nat
 | .n0 _=>1
 | .n1 _ a=>a.cnt+1
 | .n2 _ a b=>a.cnt+b.cnt+1
noncomputable def aK.dep:aK->Nat
 | .n0 _=>1
 | .n1 _ a=>a.dep+1
 | .n2 _ a b=>max a.dep b.dep+1
theorem aK.d_eq(t:aK):t.d=.tup (.int t.i::t.ps.map aK.d):=by cases t<;>rfl
theorem aK.val{H:Hp}{v:V}{t:aK}(h:bH H t.d v):∃a vs,v=.ref a/\H a=some (.tup (.int t.i::vs))/\aU H (t.ps.map aK.d) vs:=by
 rw[t.d_eq]at h;unfold bH at h;obtain⟨a,xs,rfl,hta,hts⟩:=h;obtain⟨x0,ys,rfl,hx0,htr⟩:=hts.uncons;unfold bH at hx0;subst hx0;exact⟨a,ys,rfl,hta,htr⟩
theorem aK.of{H:Hp}{a:Addr}{vs:List V}{t:aK}(h:H a=some (.tup (.int t.i::vs)))(k:aU H (t.ps.map aK.d) vs):bH H t.d (.ref a):=by
 rw[t.d_eq];exact bH.node h k
theorem aK.lt{s t:aK}(h:s∈t.ps):s.dep<t.dep/\s.cnt<t.cnt:=by
 cases t with
 |n0 i=>exact nomatch h
 |n1 i a=>rw[IU.mp h];simp only[aK.dep,aK.cnt];omega
 |n2 i a b=>
  rcases Jg.mp h with rfl | h
  ·simp only[aK.dep,aK.cnt];omega
  ·rw[IU.mp h];simp only[aK.dep,aK.cnt];omega
theorem aK.plen(t:aK):t.ps.length<=2:=by cases t<;>simp[aK.ps]
theorem aK.cnt1(t:aK):1<=t.cnt:=by cases t<;>simp[aK.cnt]
theorem aK.dep1(t:aK):1<=t.dep:=by cases t<;>simp[aK.dep]
theorem aK.cnt_eq(t:aK):t.cnt=1+(t.ps.map aK.cnt).sum:=by cases t<;>simp[aK.cnt,aK.ps]<;>omega
noncomputable def jl(i:Int):List aK->aK
 | []=>.n0 i
 | [a]=>.n1 i a
 |a::b::_=>.n2 i a b
theorem An(i:Int)(ds:List aK):(jl i ds).i=i:=by
 match ds with
 | []=>rfl
 | [a]=>rfl
 |a::b::_=>rfl
theorem vX(i:Int){ds:List aK}(h:ds.length<=2):(jl i ds).ps=ds:=by
 match ds,h with
 | [],_=>rfl
 | [a],_=>rfl
 | [a,b],_=>rfl
 |a::b::c::_,h=>simp at h
noncomputable def Sub:List Nat->aK->Option aK
 | [],t=>some t
 |k::pl,t=>match t.ps[k]? with
  |some s=>Sub pl s
  |none=>none
theorem Sub.app{s t:aK}{k:Nat}{r:aK}:∀{pl:JV} {t:aK},Sub pl t=some s->s.ps[k]?=some r->Sub (pl++[k]) t=some r
 | [],t,h,e=>by cases h;simp[Sub,e]
 |j::pl,t,h,e=>by
  rw[List.cons_append];unfold Sub at h ⊢;cases hj:t.ps[j]? with
  |none=>rw[hj]at h;cases h
  |some u=>rw[hj]at h;exact Sub.app (t:=t) h e
theorem Sub.len{s:aK}:∀{pl:JV} {t:aK},Sub pl t=some s->pl.length+s.dep<=t.dep
 | [],t,h=>by cases h;simp
 |j::pl,t,h=>by
  unfold Sub at h;cases hj:t.ps[j]? with
  |none=>rw[hj]at h;cases h
  |some u=>
   rw[hj]at h;have:=Sub.len h;have:=(aK.lt (IW hj)).1;simp;omega
noncomputable def gl(f:aK):List Nat->aK->aK
 | [],_=>f
 |k::pl,t=>match t.ps[k]? with
  |some s=>jl t.i (t.ps.set k (gl f pl s))
  |none=>t
theorem wY{t s u:aK}{k:Nat}(h:t.ps[k]?=some s):(jl t.i (t.ps.set k u)).cnt+s.cnt=t.cnt+u.cnt/\(jl t.i (t.ps.set k u)).dep<=max t.dep (u.dep+1):=by
 cases t with
 |n0 i=>simp[aK.ps]at h
 |n1 i a=>
  match k,h with
  |0,h=>cases h;simp only[aK.ps,aK.i,List.set_cons_zero,jl,aK.cnt,aK.dep];omega
  |k+1,h=>simp[aK.ps]at h
 |n2 i a b=>
  match k,h with
  |0,h=>cases h;simp only[aK.ps,aK.i,List.set_cons_zero,jl,aK.cnt,aK.dep];omega
  |1,h=>cases h;simp only[aK.ps,aK.i,List.set_cons_zero,List.set_cons_succ,jl,aK.cnt,aK.dep];omega
  |k+2,h=>simp[aK.ps]at h
theorem qb{f s:aK}:∀{pl:JV} {t:aK},Sub pl t=some s->(gl f pl t).cnt<=t.cnt+f.cnt/\(gl f pl t).dep<=t.dep+f.dep
 | [],t,h=>by simp[gl]
 |k::pl,t,h=>by
  unfold Sub at h;unfold gl;cases hj:t.ps[k]? with
  |none=>rw[hj]at h;cases h
  |some u=>
   rw[hj]at h;obtain⟨h1,h2⟩:=qb (f:=f) h;obtain⟨h3,h4⟩:=wY (u:=gl f pl u) hj;have:=(aK.lt (IW hj)).1;show(jl t.i (t.ps.set k (gl f pl u))).cnt<=_/\(jl t.i (t.ps.set k (gl f pl u))).dep<=_;omega
theorem wK:∀(t:aK),kY t.d=t.cnt
 | .n0 i=>by simp only[aK.d,kY,jd,aK.cnt]
 | .n1 i a=>by simp only[aK.d,kY,jd,aK.cnt,wK a];omega
 | .n2 i a b=>by simp only[aK.d,kY,jd,aK.cnt,wK a,wK b];omega
theorem Gr.tre{rs:Yaa}{k:Nat}{d:Dt}{nm:JV}{p:bC}{c:Int}(g:Gr rs d nm p c k):∃t:aK,d=t.d/\t.dep<=k:=by
 induction g with
 | @cell n v e=>exact⟨.n0 n,rfl,Jo _⟩
 | @turn n v d p c k e g ih=>
  obtain⟨t,rfl,h⟩:=ih;exact⟨.n1 n t,rfl,by simp only[aK.dep];omega⟩
 | @pair n kd v d1 d2 p1 p2 p c1 c2 k1 k2 hk e g1 g2 m ih1 ih2=>
  obtain⟨t,rfl,h⟩:=ih1;obtain⟨u,rfl,h'⟩:=ih2;exact⟨.n2 n t u,rfl,by simp only[aK.dep];omega⟩
theorem aK.d_inj:∀{s t:aK},s.d=t.d->s=t
 | .n0 i,.n0 j,h=>by simp only[aK.d,Dt.tup.injEq,List.cons.injEq,Dt.int.injEq,and_true]at h;rw[h]
 | .n1 i a,.n1 j b,h=>by simp only[aK.d,Dt.tup.injEq,List.cons.injEq,Dt.int.injEq,and_true]at h;rw[h.1,aK.d_inj h.2]
 | .n2 i a b,.n2 j a' b',h=>by simp only[aK.d,Dt.tup.injEq,List.cons.injEq,Dt.int.injEq,and_true]at h;rw[h.1,aK.d_inj h.2.1,aK.d_inj h.2.2]
 | .n0 i,.n1 j b,h=>by simp[aK.d]at h
 | .n0 i,.n2 j a b,h=>by simp[aK.d]at h
 | .n1 i b,.n0 j,h=>by simp[aK.d]at h
 | .n1 i c,.n2 j a b,h=>by simp[aK.d]at h
 | .n2 j a b,.n0 i,h=>by simp[aK.d]at h
 | .n2 j a b,.n1 i c,h=>by simp[aK.d]at h
noncomputable def iK(pl:JV):List V:=pl.map fun(k:Nat)=>V.int (k:Int)
theorem jj{α:Type}(x:α)(xs:List α):fC (x::xs) 0=some x:=show fC (x::xs) ((0:Nat):Int)=some x from aT rfl
theorem pO{H:Hp}:∀{ds:List Dt} {xs:List V},aU H ds xs->∀{j:Nat} {x:V},xs[j]?=some x->∃d,ds[j]?=some d/\bH H d x
 | [],_,h,j,x,e=>by unfold aU at h;subst h;simp at e
 |d::ds,xs,h,j,x,e=>by
  obtain⟨y,r,rfl,h1,h2⟩:=h.uncons
  match j,e with
  |0,e=>cases e;exact⟨d,rfl,h1⟩
  |j+1,e=>exact pO h2 e
theorem dG{H:Hp}{t:aK}{vs:List V}{j:Nat}{x:V}(h:aU H (t.ps.map aK.d) vs)(e:vs[j]?=some x):∃s,t.ps[j]?=some s/\bH H s.d x:=by
 obtain⟨d,h1,h2⟩:=pO h e;rw[IV]at h1;obtain⟨s,hs,rfl⟩:=Js.mp h1;exact⟨s,hs,h2⟩
theorem bE{H:Hp}{t:aK}{vs:List V}(h:aU H (t.ps.map aK.d) vs):vs.length=t.ps.length:=by rw[h.length,IT]
theorem x_(x:V)(ys:List V):dE (x::ys) (some 1) none=ys:=by
 unfold dE;rw[show(some 1:Option Int)=some ((1:Nat):Int) from rfl,HT.sIx_nat,HT.sIx_none,JO (by simp)];exact List.take_of_length_le (by simp)
theorem qL(x:V)(ys:List V):¬ (HT.sIx (x::ys).length 0 (some 1)=0/\HT.sIx (x::ys).length (x::ys).length none=(x::ys).length):=by
 rw[show(some 1:Option Int)=some ((1:Nat):Int) from rfl,HT.sIx_nat,JO (by simp)];exact λh=>absurd h.1 nofun
def NL(H H':Hp):Prop:=∀b o,H b=some o->(∀xs,o≠.lst xs)->H' b=some o
theorem NL.of{H H':Hp}(s:az H H'):NL H H':=λb o h _=>s b o h
theorem NL.trans{H H1 H2:Hp}(a:NL H H1)(b:NL H1 H2):NL H H2:=λc o h n=>b c o (a c o h n) n
theorem NL.put{H:Hp}{l:Addr}{xs:List V}{o:HO}(h:H l=some (.lst xs)):NL H (aC H l o):=λb u hb n=>by
 rw[aj (λe=>by rw[e,h]at hb;cases hb;exact n _ rfl)];exact hb
theorem NL.tup{H H':Hp}(a:NL H H'):b0 H H':=λb xs h=>a b _ h (λ_ e=>by cases e)
theorem NL.sqT{H H':Hp}{a:Addr}{xs:List V}(e:NL H H')(h:bc K H a xs):bc K H' a xs:=by
 rcases h with(h | ⟨o,h⟩) | h
 ·exact .inl (.inl (e _ _ h (λ_ e=>by cases e)))
 ·exact .inl (.inr ⟨o,e _ _ h (λ_ e=>by cases e)⟩)
 ·exact .inr h
structure PI where
 a:Addr
 v:V
 p:Addr
 s:aK
 pl:List Nat
def PI.at(K:W.Frag)(H:Hp)(t:aK)(x:PI):Prop:=H x.a=some (.tup [x.v,.ref x.p])/\bH H x.s.d x.v/\bc K H x.p (iK x.pl)/\Sub x.pl t=some x.s
theorem PI.at.up{H H':Hp}{t:aK}{x:PI}(h:x.at K H t)(n:NL H H'):x.at K H' t:=⟨n.tup _ _ h.1,h.2.1.up n.tup _,n.sqT h.2.2.1,h.2.2.2⟩
def tT(K:W.Frag)(H:Hp)(t:aK)(ps:JY):Prop:=∀p∈ps,∃pl s,bc K H p (iK pl)/\Sub pl t=some s
theorem tT.up{H H':Hp}{t:aK}{ps:JY}(h:tT K H t ps)(n:NL H H'):tT K H' t ps:=λp hp=>by
 obtain⟨pl,s,h1,h2⟩:=h p hp;exact⟨pl,s,n.sqT h1,h2⟩
noncomputable def gs(xs:List PI):Nat:=(xs.map λx=>x.s.cnt).sum
theorem nz(xs ys:List PI):gs (xs++ys)=gs xs+gs ys:=by unfold gs;rw[Jd,List.sum_append]
theorem uj(x:PI):gs [x]=x.s.cnt:=by unfold gs;simp
theorem oB:∀(xs:List PI),xs.length<=gs xs
 | []=>by simp[gs]
 |x::xs=>by have:=oB xs;have:=x.s.cnt1;unfold gs at *;simp;omega
theorem eW(pl:JV):(iK pl).length=pl.length:=by unfold iK;simp
theorem ky(pl:JV)(k:Nat):iK pl++[V.int (k:Int)]=iK (pl++[k]):=by unfold iK;simp
def Er(K:W.Frag)(H:Hp)(v:V)(t:aK)(lf ll:Addr)(m:Nat)(σ:St)(H':Hp):Prop:=az H H'/\(∃(xs:List PI) (ps:JY),H' ll=some (.lst (xs.map λx=>V.ref x.a))/\(∀x∈xs,x.at K H' t)/\H' lf=some (.lst (ps.map V.ref))/\tT K H' t ps/\ps.length+gs xs<=t.cnt/\(ps=[]->xs≠[])/\m=gs xs)/\∃z1 z2 z3,σ=[some v,some (V.ref lf),some (V.ref ll),z1,z2,z3]
noncomputable abbrev jt:Stmt:=eJ 64
inductive mm(K:W.Frag)(vs:List V)(H:Hp)(Q:VK)(_E:XK):Prop
 |mk (v:V) (t:aK) (_:vs=[v]) (_:bH H t.d v) (_:t.cnt<=1000) (_:t.dep<=100) (_:∀l ps H',H' l=some (.lst (ps.map V.ref))->tT K H' t ps->ps≠[]->ps.length<=1000->az H H'->Q (.ref l) H')
theorem ua:aE ["_law_tree","_law_found","_law_left","_law_here","_law_place","_law_k"] ["_law_tree"] (ak jt):=by walk_at "c"
theorem uz{f:Addr}{fd:J0}(F:cF K "_law_places" "_law_places" jt f fd)(nb:NB mg):bb P w K mg base bD 1 f fd ["_law_tree"] (mm K):=by
 have sc:=ua;walk_at "f"
 ·obtain⟨v,t,rfl,_⟩:=h;rfl
 ·obtain⟨v,t,rfl,ht,hc,hd,q⟩:=h
  refine⟨_,(ag (aM (i:=1) sc.nd rfl (Or.inl rfl) (bw ad))
   (ag (aM (i:=2) sc.nd rfl (Or.inl rfl) (bw (aa (aP (aa (am 0) (aa (aP ad) ad))) ad)))
   (ag (uk PassesOwn.never (aB (aZ.m0 gW) (au aQ rfl nb.len aR (aa (am 2) ad)) af (aI _)) (ag (iD (By PySem.F.plainAttrs_list PySem.F.slot_list_pop PySem.F.type_list_pop BC (am 2)) (eF (n:=2) rfl (a_ (aF (i:=3) sc.nd rfl (Or.inl rfl)) (a_ (aF (i:=4) sc.nd rfl (Or.inl rfl)) cM))))
   (ag (bJ (eO PySem.F.plainAttrs_list PySem.F.slot_list_append PySem.F.type_list_append cg (am 1) (aa (am 4) ad)))
   (ah (bK PassesOwn.never rfl (CC rfl nb.reversed rfl nb.range (bB (aa (au dH rfl nb.len aR (aa (am 3) ad)) ad))) (aF (i:=5) sc.nd rfl (Or.inl rfl))
   (ah (bJ (eO PySem.F.plainAttrs_list PySem.F.slot_list_append PySem.F.type_list_append cg (am 2) (aa (aP (aa (ay aA (am 3) (am 5) (λ_ _=>rfl)) (aa (aq jQ (am 4) (aP (aa (aq (aZ.m0 fJ) (am 5) af) ad))) ad))) ad)))))))))
   (ah (aG (am 1)))))),?_⟩
  walk_at "n";refine⟨Jp _,λlf hlf=>h1 _ _ ?_⟩;clear h1;have s1:=ae (o:=.lst []) hlf;have e1:aC H lf (.lst []) lf=some (.lst []):=ac;generalize aC H lf (.lst [])=H1 at s1 e1 ⊢;walk_at "n";refine⟨Jp _,λp1 hp1=>⟨ai nofun,λp2 hp2=>⟨ai nofun,λll hll=>h1 _ _ ?_⟩⟩⟩;clear h1;have sA:=ae (o:=.tup []) hp1;have eA:aC H1 p1 (.tup []) p1=some (.tup []):=ac;generalize aC H1 p1 (.tup [])=H2 at sA eA hp2 hll ⊢;have sB:=ae (o:=.tup [v,V.ref p1]) hp2;have eB:aC H2 p2 (.tup [v,V.ref p1]) p2=some (.tup [v,V.ref p1]):=ac;generalize aC H2 p2 (.tup [v,V.ref p1])=H3 at sB eB hll ⊢;have sC:=ae (o:=.lst [V.ref p2]) hll;have eC:aC H3 ll (.lst [V.ref p2]) ll=some (.lst [V.ref p2]):=ac;have hne:lf≠ll:=λe=>by rw[<- e,sB _ _ (sA _ _ e1)]at hll;cases hll
  have s13:=sA.trans sB;have hll0:H ll=none:=eQ (s1.trans s13) hll;generalize aC H3 ll (.lst [V.ref p2])=H4 at sC eC ⊢;have s14:=s13.trans sC;have s04:=s1.trans s14;walk_at "n";have hcp:gs [⟨p2,v,p1,t,[]⟩]=t.cnt:=uj _;refine⟨Er K H v t lf ll,⟨_,s04,⟨[⟨p2,v,p1,t,[]⟩],[],eC,λx hx=>?_,s14 _ _ e1,(λp hp=>nomatch hp),?_,λ_=>by simp,rfl⟩,_,_,_,rfl⟩,?_⟩
  ·rw[IU.mp hx]
   exact⟨sC _ _ eB,ht.up (b0.of s04) _,bc.of (sC _ _ (sB _ _ eA)),rfl⟩
  ·rw[hcp];simp
  rintro m σ H' ⟨sm,⟨xs,ps,hl',hxs,hf',hps,hcnt,hne0,rfl⟩,z1,z2,z3,rfl⟩;have hxl:=oB xs;walk_at "wp";refine⟨_,aW.of hl',?_⟩;rw[IT];rcases List.eq_nil_or_concat xs with rfl | ⟨ys,x,hyx⟩
  ·rw[if_neg (by simp)]
   refine h1 _ _ ?_;walk_at "wp";have hpn:ps≠[]:=λe=>hne0 e rfl;exact q lf ps H' hf' hps hpn ⋯ sm
  rw[JR]at hyx;subst hyx;rw[if_pos (by simp)];refine⟨λσ2 H2=>∃m',m'<gs (ys++[x])/\Er K H v t lf ll m' σ2 H2,λσ' H' h=>h,?_⟩;obtain⟨hxa,hxt,hxp,hxs'⟩:=hxs x (by simp);have lst1:((ys++[x]).map λx=>V.ref x.a)[((ys++[x]).map λx=>V.ref x.a).length-1]?=some (V.ref x.a):=by simp
  have lst2:((ys++[x]).map λx=>V.ref x.a).dropLast=ys.map λx=>V.ref x.a:=by rw[Jd];simp
  have n2:NL H' (aC H' ll (.lst (ys.map λx=>V.ref x.a))):=NL.put hl';have l2:aC H' ll (.lst (ys.map λx=>V.ref x.a)) ll=some (.lst (ys.map λx=>V.ref x.a)):=ac;have f2:aC H' ll (.lst (ys.map λx=>V.ref x.a)) lf=some (.lst (ps.map V.ref)):=by rw[aj hne];exact hf'
  have s2:az H (aC H' ll (.lst (ys.map λx=>V.ref x.a))):=bL sm hll0;refine⟨.inl ⟨rfl,_,aW.of hl'⟩,_,hl',_,lst1,_,rfl,?_⟩;rw[lst2];generalize aC H' ll (.lst (ys.map λx=>V.ref x.a))=H2 at n2 l2 f2 s2 ⊢;refine⟨_,bc.of (n2.tup _ _ hxa),rfl,_,_,rfl,_,_,rfl,rfl,.inl ⟨rfl,_,aW.of f2⟩,_,f2,by rw[IT];exact bp ⋯,?_⟩;have n3:NL H2 (aC H2 lf (.lst (ps.map V.ref++[V.ref x.p]))):=NL.put f2;have l3:aC H2 lf (.lst (ps.map V.ref++[V.ref x.p])) ll=some (.lst (ys.map λx=>V.ref x.a)):=by rw[aj hne.symm];exact l2
  have f3:aC H2 lf (.lst (ps.map V.ref++[V.ref x.p])) lf=some (.lst ((ps++[x.p]).map V.ref)):=by rw[ac];simp
  have s3:az H (aC H2 lf (.lst (ps.map V.ref++[V.ref x.p]))):=bL s2 hlf;generalize aC H2 lf (.lst (ps.map V.ref++[V.ref x.p]))=H3 at n3 l3 f3 s3 ⊢;have n13:=n2.trans n3;obtain⟨a,vs,hva,hta,htr⟩:=aK.val (hxt.up n13.tup _);have hvl:=bE htr;have hpl2:=x.s.plen;have hsl:=Sub.len hxs';refine⟨a,hva,_,bc.of hta,nofun,by rw[Jc];omega,by rw[Jc];omega,?_⟩;have hcx:gs (ys++[x])=gs ys+x.s.cnt:=by rw[nz,uj]
  have hcs:=x.s.cnt_eq;rw[show(((V.int x.s.i::vs).length:Int)-1).toNat=vs.length by rw[Jc];omega,show(1+(vs.length:Int)-1)=(vs.length:Int) by omega];refine uU (hi:=(vs.length:Int)) (n:=vs.length) (λj σ H'=>az H H'/\NL H3 H'/\(∃zs:List PI,H' ll=some (.lst ((ys++zs).map λx=>V.ref x.a))/\(∀z∈zs,z.at K H' t)/\zs.map PI.s=(x.s.ps.drop (vs.length-j)).reverse/\zs.length<=j)/\H' lf=some (.lst ((ps++[x.p]).map V.ref))/\∃z3,σ=[some v,some (V.ref lf),some (V.ref ll),some x.v,some (V.ref x.p),z3]) ⟨s3,λb o h _=>h,⟨[],by rw[Jz];exact l3,(λz hz=>nomatch hz),by rw[hvl];simp,by simp⟩,f3,_,rfl⟩ ?_ ?_
  ·rintro j σ H4 hj ⟨sm4,n4,⟨zs,l4,hzs,hmap,hzl⟩,f4,z3,rfl⟩
   rw[hva];walk_at "wp";obtain⟨k,hk⟩:∃k,vs.length=k+j+1:=⟨vs.length-j-1,⋯⟩;have hkv:vs[k]?=some vs[k]:=IQ ⋯;obtain⟨s',hs',ht'⟩:=dG (htr.up n4.tup _) hkv;have hk1:((vs.length:Int)-(j:Int)-1)=(k:Int):=by omega
   have hat:fC (V.int x.s.i::vs) ((vs.length:Int)-(j:Int))=some vs[k]:=by
    rw[show(vs.length:Int)-(j:Int)=((k+1:Nat):Int) by omega];exact aT (by rw[Jt];exact hkv)
   rw[hk1];refine⟨.inl ⟨rfl,_,aW.of l4⟩,_,bc.of (n4.tup _ _ hta),_,hat,ai nofun,λp1 hp1=>?_⟩;have sA:=ae (o:=.tup [V.int (k:Int)]) hp1;have eA:aC H4 p1 (.tup [V.int (k:Int)]) p1=some (.tup [V.int (k:Int)]):=ac;generalize aC H4 p1 (.tup [V.int (k:Int)])=H5 at sA eA ⊢;refine⟨_,sA.sqT (n4.sqT (n13.sqT hxp)),_,bc.of eA,by rw[eW];exact ai (by simp;omega),λpp H6 hpp sB=>⟨ai nofun,λp2 hp2=>?_⟩⟩;rw[ky]at hpp;have sC:=ae (o:=.tup [vs[k],V.ref pp]) hp2;have eC:aC H6 p2 (.tup [vs[k],V.ref pp]) p2=some (.tup [vs[k],V.ref pp]):=ac;generalize aC H6 p2 (.tup [vs[k],V.ref pp])=H7 at sC eC ⊢;have s47:=(sA.trans sB).trans sC;have l7:=s47 _ _ l4;have n8:NL H7 (aC H7 ll (.lst (((ys++zs).map λx=>V.ref x.a)++[V.ref p2]))):=NL.put l7;have n48:=(NL.of s47).trans n8;have hys:(ys++zs).length<=1000+j:=by
    rw[hcx]at hcnt hxl;have:=oB ys;simp;omega
   refine⟨_,l7,by rw[IT];exact bp ⋯,bL (sm4.trans s47) hll0,n4.trans n48,⟨zs++[⟨p2,vs[k],pp,s',x.pl++[k]⟩],by rw[ac];simp,λz hz=>?_,?_,by simp;omega⟩,by rw[aj hne];exact s47 _ _ f4⟩
   ·rcases Je.mp hz with h | h
    ·exact(hzs z h).up n48
    ·rw[IU.mp h]
     exact⟨n8.tup _ _ eC,ht'.up n48.tup _,n8.sqT (sC.sqT hpp),Sub.app (t:=t) hxs' hs'⟩
   ·have e1:vs.length-(j+1)=k:=by omega
    have e2:vs.length-j=k+1:=by omega
    rw[e1,ki hs',Jv,Jd,hmap,e2]
    rfl
  ·rintro σ H4 ⟨sm4,n4,⟨zs,l4,hzs,hmap,hzl⟩,f4,z3,rfl⟩
   have hcz:gs zs+1=x.s.cnt:=by
    have:gs zs=((zs.map PI.s).map aK.cnt).sum:=by unfold gs;rw[Jf];rfl
    rw[this,hmap,Nat.sub_self,JQ,List.map_reverse,List.sum_reverse];omega
   refine⟨gs (ys++zs),by rw[nz,hcx];omega,sm4,⟨ys++zs,ps++[x.p],l4,λz hz=>?_,f4,λp hp=>?_,?_,λe=>absurd e (by simp),rfl⟩,_,_,_,rfl⟩
   ·rcases Je.mp hz with h | h
    ·exact(hxs z (by simp[h])).up (n13.trans n4)
    ·exact hzs z h
   ·rcases Je.mp hp with h | h
    ·exact(hps.up (n13.trans n4)) p h
    ·rw[IU.mp h]
     exact⟨x.pl,x.s,(n13.trans n4).sqT hxp,hxs'⟩
   ·rw[nz,Jn]
    rw[hcx]at hcnt;simp only[List.length_singleton];omega
noncomputable abbrev wA:Stmt:=eJ 65
inductive wP(K:W.Frag)(vs:List V)(H:Hp)(Q:VK)(_E:XK):Prop
 |mk (v:V) (p:Addr) (t s:aK) (pl:JV) (_:vs=[v,.ref p]) (_:bH H t.d v) (_:bc K H p (iK pl)) (_:Sub pl t=some s) (_:∀u,bH H s.d u->Q u H)
theorem CA:aE ["_law_tree","_law_place","_law_k"] ["_law_tree","_law_place"] (ak wA):=by walk_at "c"
theorem um{H:Hp}:∀{ds:List Dt} {xs:List V},aU H ds xs->∀{j:Nat} {d:Dt},ds[j]?=some d->∃x,xs[j]?=some x/\bH H d x
 | [],_,h,j,x,e=>by simp at e
 |d::ds,xs,h,j,x,e=>by
  obtain⟨y,r,rfl,h1,h2⟩:=h.uncons
  match j,e with
  |0,e=>cases e;exact⟨y,rfl,h1⟩
  |j+1,e=>exact um h2 e
theorem tZ{H:Hp}{t s:aK}{vs:List V}{j:Nat}(h:aU H (t.ps.map aK.d) vs)(e:t.ps[j]?=some s):∃x,vs[j]?=some x/\bH H s.d x:=um h (by rw[IV,e];rfl)
theorem w_{pl:JV}{j:Nat}{x:V}(h:(iK pl)[j]?=some x):∃k,pl[j]?=some k/\x=V.int (k:Int):=by
 unfold iK at h;rw[IV]at h;obtain⟨k,hk,rfl⟩:=Js.mp h;exact⟨k,hk,rfl⟩
theorem Ck{f:Addr}{fd:J0}(F:cF K "_law_at" "_law_at" wA f fd)(nb:NB mg):bb P w K mg base bD 1 f fd ["_law_tree","_law_place"] (wP K):=by
 have sc:=CA;walk_at "f"
 ·obtain⟨v,p,t,s,pl,rfl,_⟩:=h;rfl
 ·obtain⟨v,p,t,s0,pl,rfl,ht,hp,hs,q⟩:=h
  refine⟨_,(ag (bK PassesOwn.never rfl (lN (am 1)) (aF (i:=2) sc.nd rfl (Or.inl rfl))
   (ah (aM (i:=0) sc.nd rfl (Or.inl rfl) (ay aA (am 0) (aq (aZ.m0 bx) af (am 2)) (λ_ _=>rfl)))))
   (ah (aG (am 0)))),?_⟩
  walk_at "n";refine⟨⟨_,hp⟩,?_⟩;refine jS (xs:=iK pl) (λj σ H'=>H'=H/\∃u s1 z,bH H s1.d u/\Sub (pl.take j) t=some s1/\Sub (pl.drop j) s1=some s0/\σ=[some u,some (V.ref p),z]) ⟨rfl,v,t,_,ht,by simp[Sub],hs,rfl⟩ ?_ ?_ ?_
  ·rintro j σ H' _ ⟨rfl,_⟩
   exact hp
  ·rintro j x σ H' hx ⟨rfl,u,s1,z,hu,e1,e2,rfl⟩
   obtain⟨k,hk,rfl⟩:=w_ hx;rw[ki hk]at e2;unfold Sub at e2;cases hj:s1.ps[k]? with
   |none=>rw[hj]at e2;cases e2
   |some r=>
    rw[hj]at e2;obtain⟨a,vs,rfl,hta,htr⟩:=aK.val hu;obtain⟨y,hy,hty⟩:=tZ htr hj;walk_at "wp";refine⟨_,bc.of hta,y,?_,y,r,hty,?_,e2,rfl⟩
    ·rw[show(1+(k:Int))=((k+1:Nat):Int) by omega]
     exact aT (by rw[Jt];exact hy)
    ·rw[JD,hk]
     exact Sub.app (t:=t) e1 hj
  ·rintro σ H' ⟨rfl,u,s1,z,hu,e1,e2,rfl⟩
   refine h1 _ _ ?_;walk_at "wp";rw[eW,List.drop_length]at e2;cases e2;exact q u hu
noncomputable abbrev m7:Stmt:=eJ 66
inductive lv(K:W.Frag)(n:Nat)(vs:List V)(H:Hp)(Q:VK)(_E:XK):Prop
 |mk (v fv:V) (p:Addr) (t s fr:aK) (pl:JV) (_:vs=[v,.ref p,fv]) (_:bH H t.d v) (_:bH H fr.d fv) (_:bc K H p (iK pl)) (_:Sub pl t=some s) (_:pl.length<n) (_:∀u H',bH H' (gl fr pl t).d u->az H H'->Q u H')
theorem qr:aE ["_law_tree","_law_place","_law_fresh","_law_k"] ["_law_tree","_law_place","_law_fresh"] (ak m7):=by walk_at "c"
theorem DO{k:Nat}(xs:List V)(h:k<=xs.length):dE xs none (some ((k:Nat):Int))=xs.take k:=by
 unfold dE;rw[HT.sIx_nat,HT.sIx_none,JO h];simp
theorem Bd{k:Nat}(xs:List V)(h:k<=xs.length):dE xs (some ((k:Nat):Int)) none=xs.drop k:=by
 unfold dE;rw[HT.sIx_nat,HT.sIx_none,JO h];exact List.take_of_length_le (by simp)
theorem qf{a:Int}{k:Nat}(xs:List V)(e:a=(k:Int))(h:k<=xs.length):dE xs (some a) none=xs.drop k:=by rw[e];exact Bd xs h
theorem rF{a:Int}{k:Nat}(xs:List V)(e:a=(k:Int))(h:k<=xs.length):dE xs none (some a)=xs.take k:=by rw[e];exact DO xs h
theorem qJ{H:Hp}{d:Dt}{x:V}(hx:bH H d x):∀{ds:List Dt} {xs:List V} {j:Nat},aU H ds xs->j<ds.length->aU H (ds.set j d) (xs.take j++x::xs.drop (j+1))
 | [],_,j,h,hj=>absurd hj (by simp)
 |e::ds,xs,0,h,hj=>by
  obtain⟨y,r,rfl,h1,h2⟩:=h.uncons;exact aU.cons hx h2
 |e::ds,xs,j+1,h,hj=>by
  obtain⟨y,r,rfl,h1,h2⟩:=h.uncons;exact aU.cons h1 (qJ hx h2 (by simpa using hj))
theorem pU{f:Addr}{fd:J0}(F:cF K "_law_with" "_law_with" m7 f fd)(nb:NB mg)(hm:mg "_law_with"=some (.ref f))(hk:W.keepIn K (.ref f)=true)(hb:cI K fd ["_law_tree","_law_place","_law_fresh"] []):∀n,n<=61->bb P w K mg base bD (n+1) f fd ["_law_tree","_law_place","_law_fresh"] (lv K n)
 |0,_=>by
  refine F.ok qr (λvs H Q E h=>?_) (λcdv A outer s H vs Q E hr h=>?_)
  ·obtain⟨v,fv,p,t,s,fr,pl,rfl,_⟩:=h;rfl
  ·obtain⟨v,fv,p,t,s,fr,pl,rfl,_,_,_,_,h,_⟩:=h
   exact absurd h ⋯
 |n+1,hn=>by
  have sc:=qr;have zhb:cY P w K mg base bD (n+1) "_law_with" ["_law_tree","_law_place","_law_fresh"] (lv K n):=⟨f,fd,pU F nb hm hk hb n ⋯,hm,hk,hb⟩;walk_at "f"
  ·obtain⟨v,fv,p,t,s,fr,pl,rfl,_⟩:=h;rfl
  ·obtain⟨v,fv,p,t,s0,fr,pl,rfl,ht,hf,hp,hs,hl,q⟩:=h
   have hu:=hr.units;refine⟨_,(ag (bd (aB (A0 hu) (am 1) (aP ad) (aI _))
   (ah (aG (am 2)))
   aL)
   (ag (aM (i:=3) sc.nd rfl (Or.inl rfl) (aq (aZ.m0 bx) af (ay aA (am 1) af (λ_ _=>rfl))))
   (ah (aG (aq b8 (aq b8 (bY fq (am 0) cw (cv (am 3))) (aP (aa (aO zhb (hr.mono ⋯) rfl ba (aa (ay aA (am 0) (am 3) (λ_ _=>rfl)) (aa (bY lU (am 1) (cv af) cw) (aa (am 2) ad)))) ad))) (bY fq (am 0) (cv (aq (aZ.m0 bx) (am 3) af)) cw)))))),?_⟩
   walk_at "n";refine⟨Jp _,λp0 hp0=>?_⟩;have s1:=ae (o:=.tup []) hp0;have e1:aC H p0 (.tup []) p0=some (.tup []):=ac;generalize aC H p0 (.tup [])=H1 at s1 e1 ⊢;have hfl:(iK pl).all qt=true:=by unfold iK;rw[List.all_map,JH];intro x _;rfl
   refine⟨_,s1.sqT hp,_,bc.of e1,hfl,rfl,?_⟩
   match pl,hs,hl,hp,q with
   | [],hs,hl,hp,q=>
    rw[if_pos (by rfl)];exact q _ _ (hf.up (b0.of s1) _) s1
   |k::pl,hs,hl,hp,q=>
    rw[if_neg (by intro h;cases h)];refine h1 _ _ ?_;clear h1;unfold Sub at hs;cases hj:t.ps[k]? with
    |none=>rw[hj]at hs;cases hs
    |some r=>
    rw[hj]at hs;have hkl:k<t.ps.length:=(IR.mp hj).1;obtain⟨a,vs,rfl,hta,htr⟩:=aK.val ht;have hvl:=bE htr;have hps:=t.plen;have hk1:(1+(k:Int))=((k+1:Nat):Int):=by omega
    walk_at "n";refine⟨_,s1.sqT hp,V.int (k:Int),jj _ _,_,rfl,h1 _ _ ?_⟩;clear h1;rw[hk1];walk_at "wp";refine⟨_,s1 _ _ hta,λpa H2 hpa s2=>?_⟩;rw[rF _ rfl (by simp;omega)]at hpa;obtain⟨y,hy,hty⟩:=tZ htr hj;have s02:=s1.trans s2;refine⟨_,bc.of (s02 _ _ hta),y,aT (by rw[Jt];exact hy),_,s02.sqT hp,?_⟩;have hsub:dE (iK (k::pl)) (some 1) none=iK pl:=by rw[qf _ (show(1:Int)=((1:Nat):Int) from rfl) (by simp[eW])];rfl
    rw[hsub];refine⟨λh=>?_,λp1 hp1=>?_⟩
    ·rw[show(some 1:Option Int)=some ((1:Nat):Int) from rfl,HT.sIx_nat,JO (by rw[eW];simp)]at h
     exact absurd h.1 nofun
    have s3:=ae (o:=.tup (iK pl)) hp1;have e3:aC H2 p1 (.tup (iK pl)) p1=some (.tup (iK pl)):=ac;generalize aC H2 p1 (.tup (iK pl))=H3 at s3 e3 ⊢;have s03:=s02.trans s3;refine⟨y,fv,p1,r,s0,fr,pl,rfl,hty.up (b0.of s03) _,hf.up (b0.of s03) _,bc.of e3,hs,by simp at hl;omega,λu H4 hu4 s4=>⟨ai nofun,λp2 hp2=>?_⟩⟩;have s5:=ae (o:=.tup [u]) hp2;have e5:aC H4 p2 (.tup [u]) p2=some (.tup [u]):=ac;generalize aC H4 p2 (.tup [u])=H5 at s5 e5 ⊢;have s45:=s4.trans s5;have s05:=s03.trans s45;have htk:(V.int t.i::vs).take (k+1)=V.int t.i::vs.take k:=rfl;refine dh ((s3.trans s45) _ _ hpa) e5 (by rw[htk];simp) (by rw[htk];simp;omega) λp3 H6 hp3 s6=>?_;have s06:=s05.trans s6;refine⟨_,s06 _ _ hta,λp4 H7 hp4 s7=>?_⟩;rw[qf (k:=k+2) _ ⋯ (by simp;omega)]at hp4;refine dh (s7 _ _ hp3) hp4 (by rw[htk];simp) (by rw[htk];simp;omega) λp5 H8 hp5 s8=>?_;have s48:=(s5.trans s6).trans (s7.trans s8);have s08:=s06.trans (s7.trans s8);have hpe:gl fr (k::pl) t=jl t.i (t.ps.set k (gl fr pl r)):=by rw[gl,hj]
    refine q (.ref p5) H8 ?_ s08;rw[hpe];have hlen:(t.ps.set k (gl fr pl r)).length<=2:=by rw[JK];exact hps
    refine aK.of (vs:=vs.take k++u::vs.drop (k+1)) ?_ ?_
    ·rw[An,hp5,htk]
     simp
    ·rw[vX _ hlen,List.map_set]
     exact qJ (hu4.up (b0.of s48) _) (htr.up (b0.of s08) _) (by rw[IT];exact hkl)
theorem lS(c:Int){n:Nat}(h:0<n):∃j,j<n/\c%(n:Int)=(j:Int):=by
 have h1:=JL c (b:=(n:Int)) ⋯;have h2:=JM c (b:=(n:Int)) ⋯;exact⟨(c%(n:Int)).toNat,⋯,⋯⟩
theorem Sub.cnt{s:aK}:∀{pl:JV} {t:aK},Sub pl t=some s->s.cnt<=t.cnt
 | [],t,h=>by cases h;exact Jo _
 |j::pl,t,h=>by
  unfold Sub at h;cases hj:t.ps[j]? with
  |none=>rw[hj]at h;cases h
  |some u=>
   rw[hj]at h;have:=Sub.cnt h;have:=(aK.lt (IW hj)).2;omega
def FM(ts:List aK)(q:Int)(s f:aK):Prop:=(f∈ts/\q=5)\/(f.i=s.i/\f.ps=s.ps.reverse/\q=4)\/(q<4/\f.cnt<=s.cnt+1/\f.dep<=s.dep+1)
structure o8(ts:List aK)(q:Int)(s:aK)(k:Int)(H:Hp)(f:aK)(u:V)(H':Hp):Prop where
 sm:az H H'
 tr:bH H' f.d u
 rl:(q<k/\FM ts q s f)\/(k<=q/\f=s)
theorem o8.skip{ts:List aK}{q:Int}{s:aK}{k:Int}{H:Hp}{f:aK}{u:V}{H':Hp}(h:o8 ts q s k H f u H')(hq:¬ q=k):o8 ts q s (k+1) H f u H':=⟨h.sm,h.tr,by
 rcases h.rl with⟨h1,h2⟩ | ⟨h1,h2⟩
 ·exact .inl ⟨⋯,h2⟩
 ·exact .inr ⟨⋯,h2⟩⟩
theorem o8.here{ts:List aK}{q:Int}{s:aK}{k:Int}{H:Hp}{f:aK}{u:V}{H':Hp}(h:o8 ts q s k H f u H')(hq:q=k):az H H'/\bH H' s.d u/\f=s:=by
 rcases h.rl with⟨h1,h2⟩ | ⟨h1,h2⟩
 ·omega
 ·rw[h2]at h;exact⟨h.sm,h.tr,h2⟩
theorem o8.did{ts:List aK}{q:Int}{s:aK}{k:Int}{H:Hp}{f:aK}{u:V}{H':Hp}(sm:az H H')(tr:bH H' f.d u)(hq:q=k)(h:FM ts q s f):o8 ts q s (k+1) H f u H':=⟨sm,tr,.inl ⟨⋯,h⟩⟩
theorem Bg:Ep 10 58:=⟨nofun,nofun,nofun⟩
theorem zK(xs:List V)(h:xs≠[]):dE xs none (some (-1))=xs.take (xs.length-1):=by
 have hl:0<xs.length:=by cases xs with | nil=>exact absurd rfl h | cons=>simp
 unfold dE;have:HT.sIx xs.length xs.length (some (-1))=xs.length-1:=by
  show(if(-1:Int)<0 then((-1:Int)+(xs.length:Int)).toNat else min (-1:Int).toNat xs.length)=_;rw[if_pos nofun];omega
 rw[this,HT.sIx_none];simp
theorem jL{H:Hp}{p:Addr}{i:Int}{ds:List aK}{ws:List V}(hl:ds.length<=2)(h:H p=some (.tup (V.int i::ws)))(k:aU H (ds.map aK.d) ws):bH H (jl i ds).d (.ref p):=aK.of (by rw[An];exact h) (by rw[vX _ hl];exact k)
theorem jR(i:Int)(t:aK):(jl i t.ps).cnt=t.cnt/\(jl i t.ps).dep=t.dep:=by cases t<;>exact⟨rfl,rfl⟩
theorem kK(t:aK)(n:Nat):(jl t.i (t.ps.take n)).cnt<=t.cnt/\(jl t.i (t.ps.take n)).dep<=t.dep:=by
 cases t with
 |n0 i=>simp[aK.ps,aK.i,jl]
 |n1 i a=>match n with
  |0=>simp only[aK.ps,aK.i,JP,jl,aK.cnt,aK.dep];omega
  |n+1=>simp[aK.ps,aK.i,jl]
 |n2 i a b=>match n with
  |0=>simp only[aK.ps,aK.i,JP,jl,aK.cnt,aK.dep];omega
  |1=>simp only[aK.ps,aK.i,List.take_succ_cons,JP,jl,aK.cnt,aK.dep];omega
  |n+2=>simp[aK.ps,aK.i,jl]
theorem mU(t:aK)(i:Int)(h:t.ps.length<=1):(jl t.i (t.ps++[.n0 i])).cnt=t.cnt+1/\(jl t.i (t.ps++[.n0 i])).dep<=t.dep+1:=by
 cases t with
 |n0 j=>simp[aK.ps,aK.i,jl,aK.cnt,aK.dep]
 |n1 j a=>have:=a.dep1;show a.cnt+1+1=a.cnt+1+1/\max a.dep 1+1<=a.dep+1+1;omega
 |n2 j a b=>simp[aK.ps]at h
theorem nU{H:Hp}{n:Nat}:∀{ds:List aK} {xs:List V},aU H (ds.map aK.d) xs->aU H ((ds.take n).map aK.d) (xs.take n):=by
 intro ds xs h
 induction ds generalizing xs n with
 |nil=>rw[List.map_nil]at h;unfold aU at h;subst h;simpa using aU.nil
 |cons d ds ih=>
  obtain⟨x,r,rfl,h1,h2⟩:=h.uncons
  match n with
  |0=>exact aU.nil
  |n+1=>exact aU.cons h1 (ih h2)
theorem pT{H:Hp}:∀{ds:List Dt} {xs:List V},aU H ds xs->aU H ds.reverse xs.reverse
 | [],_,h=>by unfold aU at h;subst h;exact aU.nil
 |d::ds,xs,h=>by
  obtain⟨x,r,rfl,h1,h2⟩:=h.uncons;rw[Jv,Jv];exact aU.app (pT h2) (aU.cons h1 aU.nil)
noncomputable abbrev jo:Stmt:=eJ 67
def uO(H:Hp)(ls:Addr)(as:JY)(xs:List SI)(ts:List aK):Prop:=H ls=some (.lst (as.map V.ref))/\bG H as xs/\xs≠[]/\xs.length<=100/\∀x∈xs,∃t∈ts,x.d=t.d
theorem uO.up{H H':Hp}{ls:Addr}{as:JY}{xs:List SI}{ts:List aK}(h:uO H ls as xs ts)(s:az H H'):uO H' ls as xs ts:=⟨s _ _ h.1,h.2.1.up s,h.2.2⟩
def Fl(ts:List aK)(t t':aK)(q:Int):Prop:=∃pl s f,Sub pl t=some s/\t'=gl f pl t/\(FM ts q s f\/(f=s/\q=6))
inductive ma(K:W.Frag)(vs:List V)(H:Hp)(Q:VK)(_E:XK):Prop
 |mk (v:V) (c:Int) (lr ls:Addr) (t:aK) (ws:List V) (as:JY) (xs:List SI) (ts:List aK) (_:vs=[v,.int c,.ref lr,.ref ls]) (_:bH H t.d v) (_:t.cnt<=1000) (_:t.dep<=60) (_:H lr=some (.lst ws)) (_:ws≠[]) (_:ws.length<=100) (_:uO H ls as xs ts) (_:∀t' u H',Fl ts t t' (c/64%7)->bH H' t'.d u->az H H'->Q u H')
theorem tY:aE ["_law_tree","_law_cell_here","_law_rules","_law_stock","_law_places_here","_law_place","_law_here","_law_rest","_law_more","_law_leaf"] ["_law_tree","_law_cell_here","_law_rules","_law_stock"] (ak jo):=by walk_at "c"
theorem ur{f:Addr}{fd:J0}(F:cF K "_law_spoilt" "_law_spoilt" jo f fd)(nb:NB mg)(zac:cY P w K mg base bD 1 "_law_places" ["_law_tree"] (mm K))(yaG:cY P w K mg base bD 1 "_law_at" ["_law_tree","_law_place"] (wP K))(zhb:cY P w K mg base bD 62 "_law_with" ["_law_tree","_law_place","_law_fresh"] (lv K 61)):bb P w K mg base bD 63 f fd ["_law_tree","_law_cell_here","_law_rules","_law_stock"] (ma K):=by
 have sc:=tY;walk_at "f"
 ·obtain⟨v,c,lr,ls,t,ws,as,xs,ts,rfl,_⟩:=h;rfl
 ·obtain⟨v,c,lr,ls,t,ws,as,xs,ts,rfl,ht,hc,hd,hlr,hw0,hwl,hst,q⟩:=h
  refine⟨_,(ag (aM (i:=4) sc.nd rfl (Or.inl rfl) (aO zac (hr.mono nofun) rfl ba (aa (am 0) ad)))
   (ag (aM (i:=5) sc.nd rfl (Or.inl rfl) (ay aV (am 4) (aq (aZ.m1 aX) (am 1) (au aQ rfl nb.len aR (aa (am 4) ad))) (λ_ _=>rfl)))
   (ag (aM (i:=6) sc.nd rfl (Or.inl rfl) (aO yaG (hr.mono nofun) rfl ba (aa (am 0) (aa (am 5) ad))))
   (ag (aM (i:=7) sc.nd rfl (Or.inl rfl) (aq (aZ.m1 bi) (am 1) af))
   (ag (aM (i:=8) sc.nd rfl (Or.inl rfl) (aq (aZ.m1 bi) (am 7) af))
   (ag (aM (i:=9) sc.nd rfl (Or.inl rfl) (aP (aa (aq (aZ.m1 aX) (am 8) (au aQ rfl nb.len aR (aa (am 2) ad))) ad)))
   (ag (bd (aB cz (aq (aZ.m1 aX) (am 7) af) af (aI _))
   (ah (aM (i:=6) sc.nd rfl (Or.inl rfl) (aq b8 (aP (aa (ay aA (aP (aa (tL nJ af) (aa (au aQ rfl nb.len aR (aa (am 2) ad)) (aa (aq (aZ.m0 bx) (au aQ rfl nb.len aR (aa (am 2) ad)) (aq (aZ.m1 aX) (am 8) (aq (aZ.m1 Bo) af af))) (aa (aq (aZ.m0 fJ) (tL nJ af) (aq (aZ.m1 aX) (am 8) (aq (aZ.m1 Bo) af af))) ad))))) (aq (aZ.m1 aX) (am 8) af) (λ_ _=>rfl)) ad)) (bY fq (am 6) (cv af) cw))))
   aL)
   (ag (bd (aB cz (aq (aZ.m1 aX) (am 7) af) af (aI _))
   (ah (aM (i:=6) sc.nd rfl (Or.inl rfl) (aq b8 (am 9) (bY fq (am 6) (cv af) cw))))
   aL)
   (ag (bd (aB cz (aq (aZ.m1 aX) (am 7) af) af (aI _))
   (ah (aM (i:=6) sc.nd rfl (Or.inl rfl) (tH (aB (aZ.m0 gW) (au dH rfl nb.len aR (aa (am 6) ad)) af (aI _)) (bY fq (am 6) cw (cv (tL nJ af))) (aq b8 (am 6) (aP (aa (am 9) ad))))))
   aL)
   (ag (bd (aB cz (aq (aZ.m1 aX) (am 7) af) af (aI _))
   (ah (aM (i:=6) sc.nd rfl (Or.inl rfl) (tH (aB (aZ.m0 lZ) (au dH rfl nb.len aR (aa (am 6) ad)) af (aI _)) (aq b8 (am 6) (aP (aa (am 9) ad))) (bY fq (am 6) cw (cv af)))))
   aL)
   (ag (bd (aB cz (aq (aZ.m1 aX) (am 7) af) af (aI _))
   (ah (aM (i:=6) sc.nd rfl (Or.inl rfl) (aq b8 (bY fq (am 6) cw (cv af)) (fZ ji rfl nb.tuple j_ (aa (v8 rfl (bY fq (am 6) (cv af) cw) rfl nb.list rfl nb.reversed) ad)))))
   aL)
   (ag (bd (aB cz (aq (aZ.m1 aX) (am 7) af) af (aI _))
   (ah (aM (i:=6) sc.nd rfl (Or.inl rfl) (ay aA (ay aV (am 3) (aq (aZ.m1 aX) (am 8) (au aQ rfl nb.len aR (aa (am 3) ad))) (λ_ _=>rfl)) af (λ_ _=>rfl))))
   aL)
   (ah (aG (aO zhb (hr.mono nofun) rfl ba (aa (am 0) (aa (am 5) (aa (am 6) ad)))))))))))))))))),?_⟩
  walk_at "n";refine⟨v,t,rfl,ht,hc,⋯,λl ps H1 hl hps hp0 hpl s1=>h1 _ _ ?_⟩;walk_at "nc";obtain⟨jp,hjp,ejp⟩:=lS c (n:=ps.length) (by cases ps with | nil=>exact absurd rfl hp0 | cons=>simp);have hgp:ps[jp]?=some ps[jp]:=IQ hjp;refine⟨_,aW.of hl,by rw[IT];omega,_,aW.of hl,V.ref ps[jp],?_,h1 _ _ ?_⟩
  ·rw[IT,ejp]
   exact aT (by rw[IV,hgp];rfl)
  clear h1;obtain⟨pl,s0,hpp,hsub⟩:=hps _ (I_ hjp);walk_at "n";refine⟨v,ps[jp],t,s0,pl,rfl,ht.up (b0.of s1) _,hpp,hsub,λu hu=>h1 _ _ ?_⟩;walk_at "nc";refine h1 _ _ ?_;walk_at "nc";refine h1 _ _ ?_;clear h1;have hws:0<ws.length:=by cases ws with | nil=>exact absurd rfl hw0 | cons=>simp
  obtain⟨jw,hjw,ejw⟩:=lS (c/64/7) hws;walk_at "n";refine⟨_,aW.of (s1 _ _ hlr),⋯,ai nofun,λlf hlf=>h1 _ _ ?_⟩;clear h1;rw[ejw];have s2:=ae (o:=.tup [V.int (jw:Int)]) hlf;have e2:aC H1 lf (.tup [V.int (jw:Int)]) lf=some (.tup [V.int (jw:Int)]):=ac;generalize aC H1 lf (.tup [V.int (jw:Int)])=H2 at s2 e2 ⊢;have s02:=s1.trans s2;obtain⟨q7,hq7⟩:∃q7,c/64%7=q7:=⟨_,rfl⟩;rw[hq7]at q;have hq0:0<=q7/\q7<7:=by omega
  have ya9:∀H',az H2 H'->bH H' (aK.n0 (jw:Int)).d (.ref lf):=λH' s=>aK.of (vs:=[]) (s _ _ e2) aU.nil;have hsd:=Sub.len hsub;have hs0c:s0.cnt<=t.cnt:=Sub.cnt hsub;have hs0p:=s0.plen;have pp0:o8 ts q7 s0 0 H2 s0 u H2:=⟨az.refl _,hu.up (b0.of s2) _,.inr ⟨hq0.1,rfl⟩⟩;walk_at "n";rw[hq7]
  suffices nx:∀f1 u1 G1,o8 ts q7 s0 1 H2 f1 u1 G1->N1 [some v,some (V.int c),some (V.ref lr),some (V.ref ls),some (V.ref l),some (V.ref ps[jp]),some u1,some (V.int (c/64)),some (V.int (c/64/7)),some (V.ref lf)] G1 by
   refine br (λhq=>?_) λhq=>nx _ _ _ (pp0.skip hq);obtain⟨sm,hu',_⟩:=pp0.here hq;obtain⟨a,vs,rfl,hta,htr⟩:=aK.val hu';have hvl:=bE htr;have s0m:=s02.trans sm;obtain⟨j4,hj4,ej4⟩:=lS (c/64/7) (n:=4) nofun;refine⟨_,aW.of (s0m _ _ hlr),_,aW.of (s0m _ _ hlr),Bg,nofun,Bg,nofun,ai nofun,λp1 hp1=>?_⟩;obtain⟨xs4,hx4⟩:∃xs4:List Int,[V.int (-1),V.int (ws.length:Int),V.int ((ws.length:Int)+c/64/7%10 ^ Int.toNat 58),V.int (-2-c/64/7%10 ^ Int.toNat 58)]=xs4.map V.int/\xs4.length=4:=⟨[-1,(ws.length:Int),(ws.length:Int)+c/64/7%10 ^ Int.toNat 58,-2-c/64/7%10 ^ Int.toNat 58],rfl,rfl⟩;rw[hx4.1];have sA:=ae (o:=.tup (xs4.map V.int)) hp1;have eA:aC H2 p1 (.tup (xs4.map V.int)) p1=some (.tup (xs4.map V.int)):=ac;generalize aC H2 p1 (.tup (xs4.map V.int))=HA at sA eA ⊢;have hj4':j4<xs4.length:=by rw[hx4.2];exact hj4
   refine⟨_,bc.of eA,V.int xs4[j4],?_,ai nofun,λp2 hp2=>?_⟩
   ·have ej4':c/64/7%4=(j4:Int):=ej4
    rw[ej4'];exact aT (by rw[IV,IQ hj4'];rfl)
   have sB:=ae (o:=.tup [V.int xs4[j4]]) hp2;have eB:aC HA p2 (.tup [V.int xs4[j4]]) p2=some (.tup [V.int xs4[j4]]):=ac;generalize aC HA p2 (.tup [V.int xs4[j4]])=HB at sB eB ⊢;have sAB:=sA.trans sB;refine⟨a,rfl,_,sAB _ _ hta,λp3 HC hp3 sC=>?_⟩;rw[x_]at hp3;refine dh (sC _ _ eB) hp3 (by simp) (by simp;omega) λp4 HD hp4 sD=>?_;have sAD:=sAB.trans (sC.trans sD);exact nx (jl xs4[j4] s0.ps) _ _ (o8.did (sm.trans sAD) (jL s0.plen hp4 (htr.up (b0.of sAD) _)) hq (.inr (.inr ⟨⋯,by rw[(jR _ s0).1];omega,by rw[(jR _ s0).2];omega⟩)))
  intro f1 u1 G1 pp1;refine h1 _ _ ?_;walk_at "nc";rw[hq7]
  suffices nx:∀f2 u2 G2,o8 ts q7 s0 2 H2 f2 u2 G2->N1 [some v,some (V.int c),some (V.ref lr),some (V.ref ls),some (V.ref l),some (V.ref ps[jp]),some u2,some (V.int (c/64)),some (V.int (c/64/7)),some (V.ref lf)] G2 by
   refine br (λhq=>?_) λhq=>nx _ _ _ (pp1.skip hq);obtain⟨sm,hu',_⟩:=pp1.here hq;obtain⟨a,vs,rfl,hta,htr⟩:=aK.val hu';have hvl:=bE htr;have s0m:=s02.trans sm;refine⟨a,rfl,_,hta,λp3 HC hp3 sC=>?_⟩;rw[x_]at hp3;refine dh (sC _ _ (sm _ _ e2)) hp3 (by simp) (by simp;omega) λp4 HD hp4 sD=>?_;have sAD:=sC.trans sD;exact nx (jl (jw:Int) s0.ps) _ _ (o8.did (sm.trans sAD) (jL s0.plen hp4 (htr.up (b0.of sAD) _)) hq (.inr (.inr ⟨⋯,by rw[(jR _ s0).1];omega,by rw[(jR _ s0).2];omega⟩)))
  intro f2 u2 G2 pp2;refine h1 _ _ ?_;walk_at "nc";rw[hq7]
  suffices nx:∀f3 u3 G3,o8 ts q7 s0 3 H2 f3 u3 G3->N1 [some v,some (V.int c),some (V.ref lr),some (V.ref ls),some (V.ref l),some (V.ref ps[jp]),some u3,some (V.int (c/64)),some (V.int (c/64/7)),some (V.ref lf)] G3 by
   refine br (λhq=>?_) λhq=>nx _ _ _ (pp2.skip hq);obtain⟨sm,hu',_⟩:=pp2.here hq;obtain⟨a,vs,rfl,hta,htr⟩:=aK.val hu';have hvl:=bE htr;have s0m:=s02.trans sm;refine⟨a,rfl,_,bc.of hta,br (λhgt=>⟨a,rfl,_,hta,λp3 HC hp3 sC=>?_⟩) λhgt=>⟨ai nofun,λp3 hp3=>?_⟩⟩
   ·rw[Jc,hvl]at hgt
    rw[zK _ (by simp)]at hp3;have hp3':HC p3=some (.tup (V.int s0.i::vs.take (s0.ps.length-1))):=by rw[hp3,Jc,hvl];obtain⟨m,hm⟩:∃m,s0.ps.length=m+1:=⟨s0.ps.length-1,⋯⟩;rw[hm];simp
    exact nx (jl s0.i (s0.ps.take (s0.ps.length-1))) _ _ (o8.did (sm.trans sC) (jL (by rw[JC];omega) hp3' (nU (htr.up (b0.of sC) _))) hq (.inr (.inr ⟨⋯,by have:=(kK s0 (s0.ps.length-1)).1;omega,by have:=(kK s0 (s0.ps.length-1)).2;omega⟩)))
   ·rw[Jc,hvl]at hgt
    have hps0:s0.ps=[]:=JF.mp ⋯;have sA:=ae (o:=.tup [V.ref lf]) hp3;refine dh (sA _ _ hta) ac (by simp) (by simp;omega) λp4 HD hp4 sD=>?_;have sAD:=sA.trans sD;have hz:=jL (ds:=s0.ps++[.n0 (jw:Int)]) (by rw[hps0];simp) hp4 (by rw[Jd];exact aU.app (htr.up (b0.of sAD) _) (aU.cons (ya9 _ (sm.trans sAD)) aU.nil));exact nx _ _ _ (o8.did (sm.trans sAD) hz hq (.inr (.inr ⟨⋯,by rw[(mU s0 (jw:Int) ⋯).1];omega,by have:=(mU s0 (jw:Int) ⋯).2;omega⟩)))
  intro f3 u3 G3 pp3;refine h1 _ _ ?_;walk_at "nc";rw[hq7]
  suffices nx:∀f4 u4 G4,o8 ts q7 s0 4 H2 f4 u4 G4->N1 [some v,some (V.int c),some (V.ref lr),some (V.ref ls),some (V.ref l),some (V.ref ps[jp]),some u4,some (V.int (c/64)),some (V.int (c/64/7)),some (V.ref lf)] G4 by
   refine br (λhq=>?_) λhq=>nx _ _ _ (pp3.skip hq);obtain⟨sm,hu',_⟩:=pp3.here hq;obtain⟨a,vs,rfl,hta,htr⟩:=aK.val hu';have hvl:=bE htr;have s0m:=s02.trans sm;refine⟨a,rfl,_,bc.of hta,br (λhgt=>⟨ai nofun,λp3 hp3=>?_⟩) λhgt=>⟨a,rfl,_,hta,λp3 HC hp3 sC=>?_⟩⟩
   ·rw[Jc,hvl]at hgt
    have sA:=ae (o:=.tup [V.ref lf]) hp3;refine dh (sA _ _ hta) ac (by simp) (by simp;omega) λp4 HD hp4 sD=>?_;have sAD:=sA.trans sD;have hz:=jL (ds:=s0.ps++[.n0 (jw:Int)]) (by simp;omega) hp4 (by rw[Jd];exact aU.app (htr.up (b0.of sAD) _) (aU.cons (ya9 _ (sm.trans sAD)) aU.nil));exact nx _ _ _ (o8.did (sm.trans sAD) hz hq (.inr (.inr ⟨⋯,by rw[(mU s0 (jw:Int) ⋯).1];omega,by have:=(mU s0 (jw:Int) ⋯).2;omega⟩)))
   ·rw[Jc,hvl]at hgt
    rw[rF (a:=2) (k:=2) _ rfl (by simp;omega)]at hp3;exact nx (jl s0.i (s0.ps.take 1)) _ _ (o8.did (sm.trans sC) (jL (by rw[JC];omega) (show HC p3=some (.tup (V.int s0.i::vs.take 1)) from hp3) (nU (htr.up (b0.of sC) _))) hq (.inr (.inr ⟨⋯,by have:=(kK s0 1).1;omega,by have:=(kK s0 1).2;omega⟩)))
  intro f4 u4 G4 pp4;refine h1 _ _ ?_;walk_at "nc";rw[hq7]
  suffices nx:∀f5 u5 G5,o8 ts q7 s0 5 H2 f5 u5 G5->N1 [some v,some (V.int c),some (V.ref lr),some (V.ref ls),some (V.ref l),some (V.ref ps[jp]),some u5,some (V.int (c/64)),some (V.int (c/64/7)),some (V.ref lf)] G5 by
   refine br (λhq=>?_) λhq=>nx _ _ _ (pp4.skip hq);obtain⟨sm,hu',_⟩:=pp4.here hq;obtain⟨a,vs,rfl,hta,htr⟩:=aK.val hu';have hvl:=bE htr;have s0m:=s02.trans sm;refine⟨a,rfl,_,hta,λp3 HC hp3 sC=>⟨a,rfl,_,sC _ _ hta,λp4 HD hp4 sD=>?_⟩⟩;rw[rF (a:=1) (k:=1) _ rfl (by simp)]at hp3;rw[x_]at hp4;refine⟨_,bc.of hp4,λp5 hp5=>⟨_,.inl ⟨aW.of ac,λp6 hp6=>?_⟩⟩⟩;have sE:=(ae (o:=.lst vs.reverse) hp5).trans (ae (o:=.tup vs.reverse) hp6);have sx:=sD.trans sE;refine dh (sx _ _ hp3) ac (by simp) (by simp;omega) λp7 HG hp7 sG=>?_;have sAD:=(sC.trans sx).trans sG;exact nx (jl s0.i s0.ps.reverse) _ _ (o8.did (sm.trans sAD) (jL (by rw[Ji];exact s0.plen) (show HG p7=some (.tup (V.int s0.i::vs.reverse)) from hp7) (by rw[List.map_reverse];exact pT (htr.up (b0.of sAD) _))) hq (.inr (.inl ⟨An _ _,vX _ (by rw[Ji];exact s0.plen),⋯⟩)))
  intro f5 u5 G5 pp5;refine h1 _ _ ?_;walk_at "nc";rw[hq7]
  suffices nx:∀f6 u6 G6,o8 ts q7 s0 6 H2 f6 u6 G6->N1 [some v,some (V.int c),some (V.ref lr),some (V.ref ls),some (V.ref l),some (V.ref ps[jp]),some u6,some (V.int (c/64)),some (V.int (c/64/7)),some (V.ref lf)] G6 by
   refine br (λhq=>?_) λhq=>nx _ _ _ (pp5.skip hq);obtain⟨sm,hu',_⟩:=pp5.here hq;obtain⟨a,vs,rfl,hta,htr⟩:=aK.val hu';have hvl:=bE htr;have s0m:=s02.trans sm;obtain⟨hS1,hS2,hS3,hS4,hS5⟩:=hst.up s0m;obtain⟨jx,hjx,ejx⟩:=lS (c/64/7) (n:=xs.length) (by cases xs with | nil=>exact absurd rfl hS3 | cons=>simp);obtain⟨ax,x,hax,hxx,vt,lp,hA,htx,_⟩:=hS2.got hjx;obtain⟨tx',htx',hxd⟩:=hS5 x (IW hxx);refine⟨_,aW.of hS1,by rw[IT,hS2.1];omega,_,aW.of hS1,V.ref ax,?_,ax,rfl,_,bc.of hA,vt,rfl,?_⟩
   ·rw[IT,hS2.1,ejx]
    exact aT (by rw[IV,hax];rfl)
   ·rw[hxd]at htx
    exact nx tx' _ _ (o8.did sm htx hq (.inl ⟨htx',⋯⟩))
  intro f6 u6 G6 pp6;refine h1 _ _ ?_;clear h1;walk_at "wp";refine⟨v,u6,ps[jp],t,s0,f6,pl,rfl,ht.up (b0.of (s02.trans pp6.sm)) _,pp6.tr,(s2.trans pp6.sm).sqT hpp,hsub,by have:=s0.dep1;omega,λu' H' hu' s'=>q _ u' H' ⟨pl,s0,f6,hsub,rfl,?_⟩ hu' (s02.trans (pp6.sm.trans s'))⟩;rcases pp6.rl with⟨_,h⟩ | ⟨h,rfl⟩
  ·exact .inl h
  ·exact .inr ⟨rfl,⋯⟩
noncomputable abbrev ve:=Str×List Nat
noncomputable def hJ(rs:Yaa)(i:Int)(n:Nat)(pl:JV)(w:Option (List Nat)):Option ve:=
 if i<0\/(rs.length:Int)<=i then some (Str.ofString "number",pl) else
 match rs[i.toNat]? with
 |none=>none
 |some r=>if n≠(aS r.1 r.2).length then some (Str.ofString "parts",pl) else if w≠none/\w≠some r.2.n then some (Str.ofString "name",pl) else none
noncomputable def dP(rs:Yaa)(i:Int)(k:Nat):Option (List Nat):=match rs[i.toNat]? with
 |some r=>(aS r.1 r.2)[k]?
 |none=>none
noncomputable def cf(rs:Yaa):aK->List Nat->Option (List Nat)->Option ve
 | .n0 i,pl,w=>hJ rs i 0 pl w
 | .n1 i a,pl,w=>match hJ rs i 1 pl w with
  |some y=>some y
  |none=>cf rs a (pl++[0]) (dP rs i 0)
 | .n2 i a b,pl,w=>match hJ rs i 2 pl w with
  |some y=>some y
  |none=>match cf rs a (pl++[0]) (dP rs i 0) with
   |some y=>some y
   |none=>cf rs b (pl++[1]) (dP rs i 1)
noncomputable abbrev tF:=aK×List Nat×Option (List Nat)
noncomputable def mO(rs:Yaa)(t:aK)(pl:JV):List tF:=match t with
 | .n0 _=>[]
 | .n1 i a=>[(a,pl++[0],dP rs i 0)]
 | .n2 i a b=>[(a,pl++[0],dP rs i 0),(b,pl++[1],dP rs i 1)]
noncomputable def pY(rs:Yaa):List tF->Option ve
 | []=>none
 |x::r=>match cf rs x.1 x.2.1 x.2.2 with
  |some y=>some y
  |none=>pY rs r
theorem cX(rs:Yaa)(x:tF)(r:List tF):pY rs (x::r)=match cf rs x.1 x.2.1 x.2.2 with
  |some y=>some y
  |none=>pY rs r:=by rw[pY]
theorem iH(rs:Yaa):∀(xs ys:List tF),pY rs (xs++ys)=match pY rs xs with
  |some y=>some y
  |none=>pY rs ys
 | [],ys=>rfl
 |x::xs,ys=>by
  rw[List.cons_append,cX,cX];cases cf rs x.1 x.2.1 x.2.2 with
  |some y=>rfl
  |none=>exact iH rs xs ys
theorem Ba(rs:Yaa)(t:aK)(pl:JV)(w:Option (List Nat)):cf rs t pl w=match hJ rs t.i t.ps.length pl w with
  |some y=>some y
  |none=>pY rs (mO rs t pl):=by
 cases t with
 |n0 i=>unfold cf;show _=match hJ rs i 0 pl w with | some y=>some y | none=>none;cases hJ rs i 0 pl w<;>rfl
 |n1 i a=>
  unfold cf;show _=match hJ rs i 1 pl w with | some y=>some y | none=>pY rs [(a,pl++[0],dP rs i 0)]
  cases hJ rs i 1 pl w with
  |some y=>rfl
  |none=>
   try dsimp only
   rw[cX]
   try dsimp only
   cases cf rs a (pl++[0]) (dP rs i 0)<;>rfl
 |n2 i a b=>
  unfold cf;show _=match hJ rs i 2 pl w with | some y=>some y | none=>pY rs [(a,pl++[0],dP rs i 0),(b,pl++[1],dP rs i 1)]
  cases hJ rs i 2 pl w with
  |some y=>rfl
  |none=>
   try dsimp only
   rw[cX,cX]
   try dsimp only
   cases cf rs a (pl++[0]) (dP rs i 0) with
   |some y=>rfl
   |none=>cases cf rs b (pl++[1]) (dP rs i 1)<;>rfl
theorem dZ(rs:Yaa)(t:aK)(pl:JV):(mO rs t pl).length=t.ps.length:=by cases t<;>rfl
theorem dY{rs:Yaa}{t:aK}{pl:JV}{j:Nat}{s:aK}(h:t.ps[j]?=some s):(mO rs t pl)[j]?=some (s,pl++[j],dP rs t.i j):=by
 cases t with
 |n0 i=>simp[aK.ps]at h
 |n1 i a=>
  match j,h with
  |0,h=>cases h;rfl
  |j+1,h=>simp[aK.ps]at h
 |n2 i a b=>
  match j,h with
  |0,h=>cases h;rfl
  |1,h=>cases h;rfl
  |j+2,h=>simp[aK.ps]at h
theorem zB{rs:Yaa}{ks:List tF}{j:Nat}{x:tF}(h0:pY rs (ks.take j)=none)(hx:ks[j]?=some x):(cf rs x.1 x.2.1 x.2.2=none->pY rs (ks.take (j+1))=none)/\∀y,cf rs x.1 x.2.1 x.2.2=some y->pY rs ks=some y:=by
 have e:ks.take (j+1)=ks.take j++[x]:=by rw[JD,hx];rfl
 refine⟨λh=>?_,λy h=>?_⟩
 ·rw[e,iH,h0]
  try dsimp only
  rw[cX,h]
  rfl
 ·have e2:ks=ks.take (j+1)++ks.drop (j+1):=(List.take_append_drop _ _).symm
  rw[e2,iH,e,iH,h0]
  try dsimp only
  rw[cX,h]
theorem AT{rs:Yaa}{i:Int}{n:Nat}{pl:JV}{w:Option (List Nat)}(h:hJ rs i n pl w=none):∃(m:Nat) (r:Nat×RV),i=(m:Int)/\rs[m]?=some r/\n=(aS r.1 r.2).length/\(w=none\/w=some r.2.n):=by
 unfold hJ at h
 by_cases h1:i<0\/(rs.length:Int)<=i
 ·rw[if_pos h1]at h;cases h
 rw[if_neg h1]at h;have hm:i=(i.toNat:Int):=by omega
 have hl:i.toNat<rs.length:=by omega
 rw[IQ hl]at h;dsimp only at h
 by_cases h2:n≠(aS rs[i.toNat].1 rs[i.toNat].2).length
 ·rw[if_pos h2]at h;cases h
 rw[if_neg h2]at h
 by_cases h3:w≠none/\w≠some rs[i.toNat].2.n
 ·rw[if_pos h3]at h;cases h
 refine⟨_,_,hm,IQ hl,by simpa using h2,?_⟩
 by_cases h4:w=none
 ·exact .inl h4
 ·right
  rcases Classical.em (w=some rs[i.toNat].2.n) with h5 | h5
  ·exact h5
  ·exact absurd ⟨h4,h5⟩ h3
noncomputable def Db:Option (List Nat)->V
 |none=>.non
 |some nm=>.str (tx nm)
def gP(K:W.Frag)(CF:Addr)(H:Hp)(E:XK)(y:ve):Prop:=∀(tp p d:Addr) (H':Hp),az H H'->H' d=some (.xd [("why",.ref tp)])->H' tp=some (.tup [.str y.1,.ref p])->bc K H' p (iK y.2)->E (.ref CF) (some d) H'
theorem gP.up{CF:Addr}{H H':Hp}{E:XK}{y:ve}(h:gP K CF H E y)(s:az H H'):gP K CF H' E y:=λtp p d H2 s2=>h tp p d H2 (s.trans s2)
theorem gP.made{CF:Addr}{H H':Hp}{E:XK}{w:Str}{pl:JV}{p:Addr}(h:gP K CF H E (w,pl))(s:az H H')(hp:bc K H' p (iK pl)){tp d:Addr}(h1:H' tp=none)(h2:aC H' tp (.tup [.str w,.ref p]) d=none):E (.ref CF) (some d) (aC (aC H' tp (.tup [.str w,.ref p])) d (.xd [("why",.ref tp)])):=by
 have s1:=ae (o:=.tup [.str w,.ref p]) h1;have s2:=ae (o:=.xd [("why",.ref tp)]) h2;exact h tp p d _ (s.trans (s1.trans s2)) ac (s2 _ _ ac) ((s1.trans s2).sqT hp)
noncomputable def Cf(rs:Yaa)(i:Int)(ps:List bC):Option bC:=match rs[i.toNat]? with
 |some r=>dF r.1 r.2 ps
 |none=>none
noncomputable def fF(rs:Yaa)(i:Int)(ps:List bC)(pl:JV):List Nat ⊕ bC:=match Cf rs i ps with
 |some p=>.inr p
 |none=>.inl pl
noncomputable def cq(rs:Yaa):aK->List Nat->List Nat ⊕ bC
 | .n0 i,pl=>fF rs i [] pl
 | .n1 i a,pl=>match cq rs a (pl++[0]) with
  | .inl q=>.inl q
  | .inr p=>fF rs i [p] pl
 | .n2 i a b,pl=>match cq rs a (pl++[0]) with
  | .inl q=>.inl q
  | .inr p=>match cq rs b (pl++[1]) with
   | .inl q=>.inl q
   | .inr p'=>fF rs i [p,p'] pl
noncomputable def d8(rs:Yaa):List tF->List Nat ⊕ List bC
 | []=>.inr []
 |x::r=>match cq rs x.1 x.2.1 with
  | .inl q=>.inl q
  | .inr p=>match d8 rs r with
   | .inl q=>.inl q
   | .inr ps=>.inr (p::ps)
theorem cK(rs:Yaa)(x:tF)(r:List tF):d8 rs (x::r)=match cq rs x.1 x.2.1 with
  | .inl q=>.inl q
  | .inr p=>match d8 rs r with
   | .inl q=>.inl q
   | .inr ps=>.inr (p::ps):=by rw[d8]
theorem ke(rs:Yaa):d8 rs []=.inr []:=by rw[d8]
theorem rH(rs:Yaa)(t:aK)(pl:JV):cq rs t pl=match d8 rs (mO rs t pl) with
  | .inl q=>.inl q
  | .inr ps=>fF rs t.i ps pl:=by
 cases t with
 |n0 i=>rfl
 |n1 i a=>
  unfold cq;show _=match d8 rs [(a,pl++[0],dP rs i 0)]with | .inl q=>Sum.inl q | .inr ps=>fF rs i ps pl
  rw[cK,ke]
  try dsimp only
  cases cq rs a (pl++[0])<;>rfl
 |n2 i a b=>
  unfold cq;show _=match d8 rs [(a,pl++[0],dP rs i 0),(b,pl++[1],dP rs i 1)]with | .inl q=>Sum.inl q | .inr ps=>fF rs i ps pl
  rw[cK,cK,ke]
  try dsimp only
  cases cq rs a (pl++[0]) with
  |inl q=>rfl
  |inr p=>cases cq rs b (pl++[1])<;>rfl
theorem kn(rs:Yaa)(ys:List tF):∀(xs:List tF),d8 rs (xs++ys)=match d8 rs xs with
  | .inl q=>.inl q
  | .inr ps=>match d8 rs ys with
   | .inl q=>.inl q
   | .inr ps'=>.inr (ps++ps')
 | []=>by rw[JJ,ke];cases d8 rs ys<;>rfl
 |x::xs=>by
  rw[List.cons_append,cK,cK];cases cq rs x.1 x.2.1 with
  |inl q=>rfl
  |inr p=>
   try dsimp only
   rw[kn rs ys xs];cases d8 rs xs with
   |inl q=>rfl
   |inr ps=>cases d8 rs ys<;>rfl
theorem qw{rs:Yaa}{ks:List tF}{j:Nat}{x:tF}{ps:List bC}(h0:d8 rs (ks.take j)=.inr ps)(hx:ks[j]?=some x):(∀p,cq rs x.1 x.2.1=.inr p->d8 rs (ks.take (j+1))=.inr (ps++[p]))/\∀q,cq rs x.1 x.2.1=.inl q->d8 rs ks=.inl q:=by
 have e:ks.take (j+1)=ks.take j++[x]:=by rw[JD,hx];rfl
 refine⟨λp h=>?_,λq h=>?_⟩
 ·rw[e,kn,h0,cK,ke,h]
 ·have e2:ks=ks.take (j+1)++ks.drop (j+1):=(List.take_append_drop _ _).symm
  rw[e2,kn,e,kn,h0,cK,h]
def Fm(rs:Yaa)(t:aK):Prop:=∃pl w,cf rs t pl w=none
theorem uq{rs:Yaa}:∀{ks:List tF},pY rs ks=none->∀x∈ks,cf rs x.1 x.2.1 x.2.2=none
 | [],_,x,hx=>nomatch hx
 |k::ks,h,x,hx=>by
  rw[cX]at h;cases hk:cf rs k.1 k.2.1 k.2.2 with
  |some y=>rw[hk]at h;cases h
  |none=>
   rw[hk]at h;rcases Jg.mp hx with rfl | hx
   ·exact hk
   ·exact uq h x hx
theorem Fm.node{rs:Yaa}{t:aK}(h:Fm rs t):∃(m:Nat) (r:Nat×RV),t.i=(m:Int)/\rs[m]?=some r/\t.ps.length=(aS r.1 r.2).length/\∀s∈t.ps,Fm rs s:=by
 obtain⟨pl,w,h⟩:=h;rw[Ba]at h;cases hh:hJ rs t.i t.ps.length pl w with
 |some y=>rw[hh]at h;cases h
 |none=>
  rw[hh]at h;obtain⟨m,r,h1,h2,h3,h4⟩:=AT hh;refine⟨m,r,h1,h2,h3,λs hs=>?_⟩;obtain⟨j,hj⟩:=List.getElem?_of_mem hs;exact⟨_,_,uq h _ (IW (dY (rs:=rs) (pl:=pl) hj))⟩
theorem nA{r:Nat×RV}{ps:List bC}(hk:r.1<4)(hl:ps.length=(aS r.1 r.2).length)(h6:∀p∈ps,∃a c,g7 p a c):ly r.1 ps:=by
 obtain⟨k,v⟩:=r;rcases iJ hk with rfl | rfl | rfl | rfl
 ·match ps,hl with
  | [],_=>exact .cell
 ·match ps,hl,h6 with
  | [p,q],_,h6=>obtain⟨a,c,h⟩:=h6 p (by simp);obtain⟨a',c',h'⟩:=h6 q (by simp);exact .beside h h'
 ·match ps,hl,h6 with
  | [p,q],_,h6=>obtain⟨a,c,h⟩:=h6 p (by simp);obtain⟨a',c',h'⟩:=h6 q (by simp);exact .above h h'
 ·match ps,hl,h6 with
  | [p],_,h6=>obtain⟨a,c,h⟩:=h6 p (by simp);exact .turn h
theorem ue{rs:Yaa}:∀{ks:List tF} {ps:List bC},d8 rs ks=.inr ps->ps.length=ks.length
 | [],ps,h=>by cases h;rfl
 |x::ks,ps,h=>by
  rw[cK]at h;cases h1:cq rs x.1 x.2.1 with
  |inl q=>rw[h1]at h;cases h
  |inr p=>
   rw[h1]at h;dsimp only at h;cases h2:d8 rs ks with
   |inl q=>rw[h2]at h;cases h
   |inr ps'=>rw[h2]at h;cases h;simp[ue h2]
theorem iU{rs:Yaa}{C:bC->Prop}:∀{ks:List tF} {ps:List bC},d8 rs ks=.inr ps->(∀x∈ks,∀p,cq rs x.1 x.2.1=.inr p->C p)->∀p∈ps,C p
 | [],ps,h,_,p,hp=>by cases h;exact nomatch hp
 |x::ks,ps,h,hc,p,hp=>by
  rw[cK]at h;cases h1:cq rs x.1 x.2.1 with
  |inl q=>rw[h1]at h;cases h
  |inr p0=>
   rw[h1]at h;dsimp only at h;cases h2:d8 rs ks with
   |inl q=>rw[h2]at h;cases h
   |inr ps'=>
    rw[h2]at h;cases h;rcases Jg.mp hp with rfl | hp
    ·exact hc x (by simp) _ h1
    ·exact iU h2 (λy hy=>hc y (by simp[hy])) p hp
theorem iA{rs:Yaa}(hg:∀r∈rs,iw r):∀(n:Nat) {t:aK} {pl:JV} {p:bC},t.dep<=n->Fm rs t->cq rs t pl=.inr p->∃r c,g7 p r c
 |0,t,_,_,hn,_,_=>absurd t.dep1 ⋯
 |n+1,t,pl,p,hn,hf,h=>by
  obtain⟨m,r,h1,h2,h3,h4⟩:=hf.node;rw[rH]at h;cases hL:d8 rs (mO rs t pl) with
  |inl q=>rw[hL]at h;cases h
  |inr ps=>
   rw[hL]at h;have gr:=hg r (IW h2);have h:fF rs t.i ps pl=.inr p:=h;unfold fF Cf at h;rw[h1,Ja,h2]at h;dsimp only at h;cases hm:dF r.1 r.2 ps with
   |none=>rw[hm]at h;cases h
   |some p'=>
    rw[hm]at h;cases h;refine qC (nA gr.k4 (by rw[ue hL,dZ,h3]) (iU hL λx hx p' hp'=>?_)) hm gr.good.sg;obtain⟨j,hj⟩:=List.getElem?_of_mem hx;have hjl:j<t.ps.length:=by rw[<- dZ rs t pl];exact(IR.mp hj).1
    have hs:=IQ hjl;rw[dY hs]at hj;cases hj;have hlt:=(aK.lt (I_ hjl)).1;exact iA hg n ⋯ (h4 _ (I_ hjl)) hp'
noncomputable def b9(rs:Yaa)(t:aK):Option ve:=match cf rs t [] none with
 |some y=>some y
 |none=>match cq rs t []with
  | .inl q=>some (Str.ofString "fit",q)
  | .inr _=>none
theorem Gr.noF{rs:Yaa}{k:Nat}{d:Dt}{nm:JV}{p:bC}{c:Int}(g:Gr rs d nm p c k):∀(t:aK),d=t.d->∀pl,(∀w,(w=none\/w=some nm)->cf rs t pl w=none)/\cq rs t pl=.inr p:=by
 induction g with
 | @cell n v e=>
  intro t ht pl;have:t=.n0 n:=aK.d_inj (s:=t) (t:=.n0 n) ht.symm;subst this;have hn:=(IR.mp e).1;refine⟨λw hw=>?_,?_⟩
  ·unfold cf hJ
   rw[if_neg ⋯,Ja,e]
   try dsimp only
   rw[if_neg (λh=>h rfl),if_neg (by rcases hw with rfl | rfl<;>simp)]
  ·unfold cq fF Cf
   rw[Ja,e]
   rfl
 | @turn n v d p c k e g ih=>
  intro t ht pl;obtain⟨u,rfl,_⟩:=g.tre;have:t=.n1 n u:=aK.d_inj (s:=t) (t:=.n1 n u) ht.symm;subst this;have hn:=(IR.mp e).1;obtain⟨i1,i2⟩:=ih u rfl (pl++[0]);refine⟨λw hw=>?_,?_⟩
  ·have h0:hJ rs (n:Int) 1 pl w=none:=by
    unfold hJ;rw[if_neg ⋯,Ja,e]
    try dsimp only
    rw[if_neg (λh=>h rfl),if_neg (by rcases hw with rfl | rfl<;>simp)]
   unfold cf;rw[h0];refine i1 _ (.inr ?_);unfold dP;rw[Ja,e]
   rfl
  ·unfold cq
   rw[i2];unfold fF Cf
   try dsimp only
   rw[Ja,e]
   rfl
 | @pair n kd v d1 d2 p1 p2 p c1 c2 k1 k2 hk e g1 g2 m ih1 ih2=>
  intro t ht pl;obtain⟨u,rfl,_⟩:=g1.tre;obtain⟨u',rfl,_⟩:=g2.tre;have:t=.n2 n u u':=aK.d_inj (s:=t) (t:=.n2 n u u') ht.symm;subst this;have hn:=(IR.mp e).1;obtain⟨i1,i2⟩:=ih1 u rfl (pl++[0]);obtain⟨i3,i4⟩:=ih2 u' rfl (pl++[1]);have hpk:aS kd v=[v.o1,v.o2]:=by rcases hk with rfl | rfl<;>rfl
  refine⟨λw hw=>?_,?_⟩
  ·have h0:hJ rs (n:Int) 2 pl w=none:=by
    unfold hJ;rw[if_neg ⋯,Ja,e]
    try dsimp only
    rw[hpk,if_neg (λh=>h rfl),if_neg (by rcases hw with rfl | rfl<;>simp)]
   have n0:dP rs (n:Int) 0=some v.o1:=by unfold dP;rw[Ja,e];dsimp only;rw[hpk];rfl
   have n1:dP rs (n:Int) 1=some v.o2:=by unfold dP;rw[Ja,e];dsimp only;rw[hpk];rfl
   unfold cf;rw[h0]
   try dsimp only
   rw[i1 _ (.inr n0)];exact i3 _ (.inr n1)
  ·unfold cq
   rw[i2]
   try dsimp only
   rw[i4];unfold fF Cf
   try dsimp only
   rw[Ja,e]
   try dsimp only
   rw[m]
theorem Gr.noF'{rs:Yaa}{k:Nat}{t:aK}{nm:JV}{p:bC}{c:Int}(g:Gr rs t.d nm p c k):b9 rs t=none:=by
 obtain⟨h1,h2⟩:=g.noF t rfl [];unfold b9;rw[h1 none (.inl rfl),h2]
noncomputable abbrev gH:Stmt:=eJ 18
inductive fG(K:W.Frag)(R:RC)(CG CF:Addr)(n:Nat)(vs:List V)(H:Hp)(Q:VK)(E:XK):Prop
 |mk (g:Addr) (v:V) (pl:Addr) (dx:Addr) (sg st:JV) (as:JY) (rs:Yaa) (t:aK) (ps:JV) (wn:Option (List Nat)) (_:vs=[.ref g,v,.ref pl,Db wn]) (_:hV R H CG dx g sg st as rs) (_:rs.length<=24) (_:bH H t.d v) (_:t.dep<=n) (_:bc K H pl (iK ps)) (_:ps.length+n<=100) (_:(cf rs t ps wn=none->∀H',az H H'->Q .non H')) (_:∀y,cf rs t ps wn=some y->gP K CF H E y)
theorem jg:aE ["grammar","tree","place","name","number","rule","parts","k","part"] ["grammar","tree","place","name"] (ak gH):=by walk_at "c"
theorem je{R:RC}{f CG yaa:Addr}{fd:J0}(F:cF K "check_form" "check_form" gH f fd)(nb:NB mg)(rk:oP K R)(yad:mg "NoTree"=some (.ref yaa))(yah:XI P w K mg base 1 yaa "why")(yas:sY P w K mg base bD 1 "parts" (lg K R))(yae:lM P w K mg base bD 1 CG "rule" ["self","k"] (dD R CG))(yaD:lM P w K mg base bD 1 CG "many" ["self"] (gt R CG))(hm:mg "check_form"=some (.ref f))(hk:W.keepIn K (.ref f)=true)(hb:cI K fd ["grammar","tree","place","name"] []):∀n,n<=60->bb P w K mg base (dz P w) (n+4) f fd ["grammar","tree","place","name"] (fG K R CG yaa n)
 |0,_=>by
  refine F.okX jg (λvs H Q E h=>?_) (λcdv A outer s H vs Q E hr h=>?_)
  ·obtain⟨g,v,pl,dx,sg,st,as,rs,t,ps,wn,rfl,_⟩:=h;rfl
  ·obtain⟨g,v,pl,dx,sg,st,as,rs,t,ps,wn,rfl,_,_,_,hd,_⟩:=h
   have:=t.dep1;omega
 |n+1,hn=>by
  have sc:=jg;have yaz:cY P w K mg base (dz P w) (n+4) "check_form" ["grammar","tree","place","name"] (fG K R CG yaa n):=⟨f,fd,je F nb rk yad yah yas yae yaD hm hk hb n ⋯,hm,hk,hb⟩;walk_at "x"
  ·obtain⟨g,v,pl,dx,sg,st,as,rs,t,ps,wn,rfl,_⟩:=h;rfl
  ·obtain⟨g,v,pl,dx,sg,st,as,rs,t,ps,wn,rfl,hG,h24,ht,hd,hpl,hz,q,bad⟩:=h
   refine⟨_,(ag (aM (i:=4) sc.nd rfl (Or.inl rfl) (ay aA (am 1) af (λ_ _=>rfl)))
   (ag (bd (PW.pt (fU (aB (aZ.m0 lZ) (am 4) af (aI _)) (d9 (aB (aZ.m0 Br) (am 4) (A9 yaD (hr.mono ⋯) ba (am 0)) (aI _)))))
   (ah (dn yah (hr.mono ⋯) rfl rfl yad (dj λ_ _ _ h=>h) (aa (aP (bg (aa (am 2) ad))) ad)))
   aL)
   (ag (aM (i:=5) sc.nd rfl (Or.inl rfl) (tB yae (hr.mono ⋯) ba (am 0) (aa (am 4) ad)))
   (ag (aM (i:=6) sc.nd rfl (Or.inl rfl) (uw yas (hr.mono ⋯) ba (am 5)))
   (ag (bd (aB jb (aq (aZ.m0 fJ) (au dH rfl nb.len aR (aa (am 1) ad)) af) (au aQ rfl nb.len aR (aa (am 6) ad)) (aI _))
   (ah (dn yah (hr.mono ⋯) rfl rfl yad (dj λ_ _ _ h=>h) (aa (aP (bg (aa (am 2) ad))) ad)))
   aL)
   (ag (bd (PW.pt (jJ (aB gy (am 3) bU (aI _)) (kO (aB jb (e8 (am 5) rfl) (am 3) (aI _)))))
   (ah (dn yah (hr.mono ⋯) rfl rfl yad (dj λ_ _ _ h=>h) (aa (aP (bg (aa (am 2) ad))) ad)))
   aL)
   (ah (bK PassesOwn.leaving rfl (mV rfl nb.enumerate (aa (am 6) ad)) (eF (n:=2) rfl (a_ (aF (i:=7) sc.nd rfl (Or.inl rfl)) (a_ (aF (i:=8) sc.nd rfl (Or.inl rfl)) cM)))
   (ah (bJ (aO (E:=E) yaz (hr.mono ⋯) rfl (c_ λ_ _ _ h=>h) (aa (am 0) (aa (ay aA (am 1) (aq (aZ.m0 bx) (am 7) af) (λ_ _=>rfl)) (aa (aq jQ (am 2) (aP (aa (am 7) ad))) (aa (am 8) ad))))))))))))))),?_⟩
   obtain⟨a,vs,rfl,hta,htr⟩:=aK.val ht;have hvl:=bE htr;rw[Ba]at q bad;have hps:=t.plen;walk_at "n";refine⟨_,bc.of hta,_,jj _ _,h1 _ _ ?_⟩;clear h1;have badE:∀(w:Str) (H':Hp),hJ rs t.i t.ps.length ps wn=some (w,ps)->az H H'->2<=sizeLine/\∀p,H' p=none->1<=sizeLine/\∀d,aC H' p (.tup [V.str w,V.ref pl]) d=none->E (.ref yaa) (some d) (aC (aC H' p (.tup [V.str w,V.ref pl])) d (.xd [("why",.ref p)])):=λw H' e s'=>
    ⟨ai nofun,λp hp=>⟨ai nofun,λd hd=>gP.made (bad (w,ps) (by rw[e])) s' (s'.sqT hpl) hp hd⟩⟩
   obtain⟨lk,pn,t0,ha,hkk,hrs,hN,hmm⟩:=id hG;walk_at "n";refine br (λhlt=>?_) λhlt=>?_
   ·refine badE (Str.ofString "number") H ?_ (az.refl _)
    unfold hJ;rw[if_pos (.inl hlt)]
   refine⟨_,_,ha,rfl,g,dx,sg,st,as,rs,rfl,hG,?_⟩;refine⟨_,rfl,?_⟩;refine br (λhge=>?_) λhge=>?_
   ·refine badE (Str.ofString "number") H ?_ (az.refl _)
    unfold hJ;rw[if_pos (.inr ⋯)]
   refine h1 _ _ ?_;clear h1;obtain⟨i,hi⟩:∃i:Nat,t.i=(i:Int):=⟨t.i.toNat,⋯⟩;have hil:i<rs.length:=by omega
   obtain⟨r,hri⟩:∃r,rs[i]?=some r:=⟨_,IQ hil⟩;have hlr:i<as.length:=by rw[hrs.1];exact hil
   obtain⟨b,hb'⟩:∃b,as[i]?=some b:=⟨_,IQ hlr⟩;have yaE:=hrs.2 i b r hb' hri;have hhd:hJ rs t.i t.ps.length ps wn=if t.ps.length≠(aS r.1 r.2).length then some (Str.ofString "parts",ps) else if wn≠none/\wn≠some r.2.n then some (Str.ofString "name",ps) else none:=by
    unfold hJ;rw[if_neg ⋯,hi,Ja,hri]
   have hnm:∀j,dP rs t.i j=(aS r.1 r.2)[j]?:=λj=>by
    unfold dP;rw[hi,Ja,hri]
   rw[hi]at hta ⊢;walk_at "n";refine⟨_,_,ha,rfl,g,dx,sg,st,as,rs,i,b,rfl,hG,hb',h1 _ _ ?_⟩;walk_at "nc";refine qk rk yaE λlp H1 hlp0 hlp s1=>h1 _ _ ?_;walk_at "nc";refine⟨_,bc.of (s1 _ _ hta),_,aW.of hlp,?_⟩;rw[av,Jc,hvl];refine br (λhne=>?_) λhne=>?_
   ·refine badE (Str.ofString "parts") H1 ?_ s1
    rw[hhd,if_pos ⋯]
   have hpl1:(aD (aS r.1 r.2)).length=t.ps.length:=by rw[av];omega
   refine h1 _ _ ?_;walk_at "nc";obtain⟨rdx,rl,hrb,hrl⟩:=id yaE;have hkl:=dZ rs t ps;have go:hJ rs t.i t.ps.length ps wn=none->N1 [some (V.ref g),some (V.ref a),some (V.ref pl),some (Db wn),some (V.int (i:Int)),some (V.ref b),some (V.ref lp),none,none] H1:=λhno=>by
    rw[hno]at q bad;refine h1 _ _ ?_;clear h1;walk_at "wp";refine⟨_,aW.of hlp,?_⟩;refine iM (xs:=aD (aS r.1 r.2)) (λj σ H'=>az H H'/\H' lp=some (.lst (aD (aS r.1 r.2)))/\pY rs ((mO rs t ps).take j)=none/\∃z1 z2,σ=[some (V.ref g),some (V.ref a),some (V.ref pl),some (Db wn),some (V.int (i:Int)),some (V.ref b),some (V.ref lp),z1,z2]) ⟨s1,hlp,by rw[JP];rfl,_,_,rfl⟩ ?_ ?_ ?_
    ·rintro j σ H' _ ⟨_,h,_⟩
     exact aW.of h
    ·rintro j x σ H' T hx ⟨sm,hlp',hcfs,z1,z2,rfl⟩ hT
     have hj:j<t.ps.length:=by rw[<- hpl1];exact(IR.mp hx).1
     have hj2:j<(aS r.1 r.2).length:=by rw[av]at hpl1;omega
     have hx':x=V.str (tx (aS r.1 r.2)[j]):=by
      rw[bh hj2]at hx;exact(Option.some.inj hx).symm
     subst hx';have sT:=ae (o:=.tup [V.int (j:Int),V.str (tx (aS r.1 r.2)[j])]) hT;have eT:aC H' T (.tup [V.int (j:Int),V.str (tx (aS r.1 r.2)[j])]) T=some (.tup [V.int (j:Int),V.str (tx (aS r.1 r.2)[j])]):=ac;generalize aC H' T (.tup [V.int (j:Int),V.str (tx (aS r.1 r.2)[j])])=H2 at sT eT ⊢;have sm2:=sm.trans sT;have hvj:vs[j]?=some vs[j]:=IQ ⋯;obtain⟨s',hs',ht'⟩:=dG htr hvj;have hlt:=(aK.lt (IW hs')).1;obtain⟨st1,st2⟩:=zB hcfs (dY (rs:=rs) (pl:=ps) hs');have hn':dP rs t.i j=some (aS r.1 r.2)[j]:=by rw[hnm,IQ hj2]
     rw[hn']at st1 st2;walk_at "wp";refine⟨_,bc.of eT,rfl,_,_,rfl,_,_,rfl,rfl,?_⟩;refine⟨_,rfl,_,bc.of (sm2 _ _ hta),_,show fC (V.int (i:Int)::vs) (((j+1:Nat)):Int)=some vs[j] from aT (by rw[Jt];exact hvj),ai nofun,λp1 hp1=>?_⟩;have s3:=sm2.trans (ae (o:=.tup [V.int (j:Int)]) hp1);have sL:=sT.trans (ae (o:=.tup [V.int (j:Int)]) hp1);have e3:aC H2 p1 (.tup [V.int (j:Int)]) p1=some (.tup [V.int (j:Int)]):=ac;generalize aC H2 p1 (.tup [V.int (j:Int)])=H3 at s3 e3 sL ⊢;refine⟨_,s3.sqT hpl,_,bc.of e3,by rw[eW];exact ai (by simp;omega),λpp H4 hpp s4=>?_⟩;rw[ky]at hpp;have s5:=s3.trans s4;refine⟨g,vs[j],pp,dx,sg,st,as,rs,s',ps++[j],some (aS r.1 r.2)[j],rfl,hG.up s5,h24,ht'.up (b0.of s5) _,⋯,hpp,by simp;omega,λhcf H5 s6=>⟨s5.trans s6,s6 _ _ (s4 _ _ (sL _ _ hlp')),st1 hcf⟩,λy hy=>(bad y (st2 y hy)).up s5⟩
    ·rintro σ H' ⟨sm,_,hcfs,z1,z2,rfl⟩
     walk_at "wp";rw[hpl1,<- hkl,JB]at hcfs;exact q hcfs H' sm
   rw[if_neg ⋯]at hhd;cases wn with
   |none=>
    rw[if_neg (λh=>h rfl)];refine go ?_;rw[hhd,if_neg (λh=>h.1 rfl)]
   |some nm=>
    rw[if_pos (λh=>by cases h)];refine⟨_,_,_,s1 _ _ hrb,(rk.icls r.1).cl,(rk.name r.1).1,_,(iL rl r.2 r.1).1,rfl,?_⟩;refine br (λhne=>?_) λhne=>?_
    ·refine badE (Str.ofString "name") H1 ?_ s1
     rw[hhd,if_pos ⟨(λh=>by cases h),λh=>hne (by cases h;rfl)⟩]
    ·refine go ?_
     have e:tx r.2.n=tx nm:=by
      have e:=Classical.not_not.mp hne;unfold Db at e;cases e
      rfl
     rw[hhd,if_neg (λh=>h.2 (by rw[fA e]))]
noncomputable abbrev gC:Stmt:=jG 8 0
theorem ui:aE ["self","why"] ["self","why"] (ak gC):=by walk_at "c"
theorem zy{f C:Addr}{fd:J0}(F:cF K "__init__" "NoTree.__init__" gC f fd)(xs:W.XSt K C "why"):bb P w K mg base bD 1 f fd ["self","why"] (gE C "why"):=by
 have sc:=ui;walk_at "f"
 ·obtain⟨a,v,rfl,_⟩:=h;rfl
 ·obtain⟨a,v,rfl,ha,q⟩:=h
  refine⟨_,(ah (r9 (pv 0) (pv 1) rfl)),?_⟩;walk_at "wp";exact⟨C,ha,xs,λd hd=>q d hd⟩
theorem ya{f C:Addr}{fd:J0}(F:cF K "__init__" "NoTree.__init__" gC f fd)(xs:W.XSt K C "why"):wN P w K mg base bD 1 f fd ["self","why"] (gE C "why"):=by
 have sc:=ui;refine F.okQ sc (λvs H Q E h=>?_) (λcdv A outer s H vs Q E h=>?_)
 ·obtain⟨a,v,rfl,_⟩:=h;rfl
 ·obtain⟨a,v,rfl,ha,q⟩:=h
  refine⟨_,(ah (r9 (pv 0) (pv 1) rfl)),?_⟩;walk_at "wp";exact⟨C,ha,xs,λd hd=>q d hd⟩
theorem xW{R:RC}{CF:Addr}{H:Hp}{k a b}{v:RV}{as:JY}{ps:List bC}{Q:VK}{E:XK}(r:iu R H k a v)(ok:Fq k v)(pa:m8 H b as ps)(ft:ly k ps)
  (q:∀p,dF k v ps=some p->bS H p Q) (x:dF k v ps=none->E (.ref CF) none H) :
  ∃o,o∈md K R CF/\∃a',V.ref a=V.ref a'/\∃dx fs,H a'=some (.ins o.1 dx fs)/\fs.lookup ("made":Str)=none/\o.2 [.ref a,.ref b] H Q E:=by
 obtain⟨o,ho,dx,fs,h1,h2,h3⟩:=Be r ok pa ft q x;exact⟨o,ho,a,rfl,dx,fs,h1,h2,h3⟩
noncomputable abbrev zl:Stmt:=eJ 19
inductive vO(K:W.Frag)(R:RC)(CG CF:Addr)(n:Nat)(vs:List V)(H:Hp)(Q:VK)(E:XK):Prop
 |mk (g:Addr) (v:V) (pl:Addr) (dx:Addr) (sg st:JV) (as:JY) (rs:Yaa) (t:aK) (ps:JV) (_:vs=[.ref g,v,.ref pl]) (_:hV R H CG dx g sg st as rs) (_:(∀r∈rs,iw r)) (_:bH H t.d v) (_:Fm rs t) (_:t.dep<=n) (_:bc K H pl (iK ps)) (_:ps.length+n<=100) (_:(∀p,cq rs t ps=.inr p->bS H p Q)) (_:∀q,cq rs t ps=.inl q->gP K CF H E (Str.ofString "fit",q))
theorem AA:aE ["grammar","tree","place","pictures","k","part"] ["grammar","tree","place"] (ak zl):=by walk_at "c"
theorem Ag{R:RC}{f CG zfa yaa:Addr}{fd:J0}{bmD:JX}{nD:String}(F:cF K "lay" "lay" zl f fd)(nb:NB mg)(zwa:mg "NoFit"=some (.ref zfa))(zib:lG K zfa bmD nD)(hbase:bmD.contains (.type "BaseException")=true)(und:mh K zfa zfa)(yad:mg "NoTree"=some (.ref yaa))(yah:Fc P w K mg base 1 yaa "why")(yaF:sY P w K mg base (dz P w) 4 "made" (md K R zfa))(yae:lM P w K mg base bD 1 CG "rule" ["self","k"] (dD R CG))(hm:mg "lay"=some (.ref f))(hk:W.keepIn K (.ref f)=true)(hb:cI K fd ["grammar","tree","place"] []):∀n,n<=60->bb P w K mg base (vK P w) (n+5) f fd ["grammar","tree","place"] (vO K R CG yaa n)
 |0,_=>by
  refine F.okW AA (λvs H Q E h=>?_) (λcdv A outer s H vs Q E hr h=>?_)
  ·obtain⟨g,v,pl,dx,sg,st,as,rs,t,ps,rfl,_⟩:=h;rfl
  ·obtain⟨g,v,pl,dx,sg,st,as,rs,t,ps,rfl,_,_,_,_,hd,_⟩:=h
   have:=t.dep1;omega
 |n+1,hn=>by
  have sc:=AA;have yaA:cY P w K mg base (vK P w) (n+5) "lay" ["grammar","tree","place"] (vO K R CG yaa n):=⟨f,fd,Ag F nb zwa zib hbase und yad yah yaF yae hm hk hb n ⋯,hm,hk,hb⟩;walk_at "y"
  ·obtain⟨g,v,pl,dx,sg,st,as,rs,t,ps,rfl,_⟩:=h;rfl
  ·obtain⟨g,v,pl,dx,sg,st,as,rs,t,ps,rfl,hG,hgd,ht,hfm,hd,hpl,hz,q,bad⟩:=h
   refine⟨_,(ag (aM (i:=3) sc.nd rfl (Or.inl rfl) (bw ad))
   (ag (bK PassesOwn.leaving rfl (zM rfl nb.enumerate (aa (bY lU (am 1) (cv af) cw) ad)) (eF (n:=2) rfl (a_ (aF (i:=4) sc.nd rfl (Or.inl rfl)) (a_ (aF (i:=5) sc.nd rfl (Or.inl rfl)) cM)))
   (ah (bJ (eO PySem.F.plainAttrs_list PySem.F.slot_list_append PySem.F.type_list_append cg (am 3) (aa (aO (E:=E) yaA (hr.mono ⋯) rfl (dI λ_ _ _ h=>h) (aa (am 0) (aa (am 5) (aa (aq jQ (am 2) (aP (aa (am 4) ad))) ad)))) ad)))))
   (ah (sJ yah (hr.mono ⋯) rfl rfl (Ch yaF (hr.mono ⋯) (tB yae (hr.mono ⋯) ba (am 0) (aa (ay aA (am 1) af (λ_ _=>rfl)) ad)) (aa (am 3) ad)) rfl zwa zib hbase rfl yad (u8 λ_ _ _ h=>h) (λea=>(aa (aP (bg (aa (am 2) ad))) ad)))))),?_⟩
   obtain⟨a,vs,rfl,hta,htr⟩:=aK.val ht;have hvl:=bE htr;have hps:=t.plen;obtain⟨i,r,hi,hri,hpar,hsub⟩:=hfm.node;have hil:i<rs.length:=(IR.mp hri).1;rw[hi]at hta;rw[rH]at q bad;walk_at "n";refine⟨Jp _,λl hl=>h1 _ _ ?_⟩;walk_at "nc";have s1:=ae (o:=.lst []) hl;have e1:aC H l (.lst []) l=some (.lst []):=ac;generalize aC H l (.lst [])=H1 at s1 e1 ⊢;refine⟨_,bc.of (s1 _ _ hta),qL _ _,λpt hpt=>?_⟩;rw[x_];have s2:=s1.trans (ae (o:=.tup vs) hpt);have e2:=ae (o:=.tup vs) hpt _ _ e1;have ep:aC H1 pt (.tup vs) pt=some (.tup vs):=ac;generalize aC H1 pt (.tup vs)=H2 at s2 e2 ep ⊢;refine⟨_,bc.of ep,?_⟩;refine vL (xs:=vs) (λj σ H'=>az H H'/\H' pt=some (.tup vs)/\(∃(bs:JY) (pcs:List bC),H' l=some (.lst (bs.map V.ref))/\bs.length=j/\pcs.length=j/\d8 rs ((mO rs t ps).take j)=.inr pcs/\∀(m:Nat) b p,bs[m]?=some b->pcs[m]?=some p->H' b=some (.lst (aD p))/\p≠[])/\∃z1 z2,σ=[some (V.ref g),some (V.ref a),some (V.ref pl),some (V.ref l),z1,z2]) ⟨s2,ep,⟨[],[],e2,rfl,rfl,by rw[JP];rfl,λm b y h=>by simp at h⟩,_,_,rfl⟩ ?_ ?_ ?_
   ·rintro j σ H' _ ⟨_,h,_⟩
    exact bc.of h
   ·rintro j x σ H' T hx ⟨sm,hpt',⟨bs,pcs,hbs,hbl,hpcl,hlay,hbat⟩,z1,z2,rfl⟩ hT
    have sT:=ae (o:=.tup [V.int (j:Int),x]) hT;have eT:aC H' T (.tup [V.int (j:Int),x]) T=some (.tup [V.int (j:Int),x]):=ac;generalize aC H' T (.tup [V.int (j:Int),x])=H3 at sT eT ⊢;obtain⟨s0,hs0,ht0⟩:=dG htr hx;have hjl:j<t.ps.length:=(IR.mp hs0).1;obtain⟨st1,st2⟩:=qw hlay (dY (rs:=rs) (pl:=ps) hs0);have hlt:=(aK.lt (IW hs0)).1;have sm3:=sm.trans sT;walk_at "wp";refine⟨_,bc.of eT,rfl,_,_,rfl,_,_,rfl,rfl,.inl ⟨rfl,_,aW.of (sT _ _ hbs)⟩,ai nofun,λp1 hp1=>?_⟩;have sU:=ae (o:=.tup [V.int (j:Int)]) hp1;have eU:aC H3 p1 (.tup [V.int (j:Int)]) p1=some (.tup [V.int (j:Int)]):=ac;generalize aC H3 p1 (.tup [V.int (j:Int)])=H4 at sU eU ⊢;have s4:=sm3.trans sU;refine⟨_,s4.sqT hpl,_,bc.of eU,by rw[eW];exact ai (by simp;omega),λpp H5 hpp s5=>?_⟩;rw[ky]at hpp;have s6:=s4.trans s5;have sT5:=(sT.trans sU).trans s5;have hf0:=hsub s0 (IW hs0);refine⟨g,x,pp,dx,sg,st,as,rs,s0,ps++[j],rfl,hG.up s6,hgd,ht0.up (b0.of s6) _,hf0,⋯,hpp,by simp;omega,λpc hpc lq H6 hlq0 hlq s7=>?_,λy hy=>(bad y (by rw[st2 y hy])).up s6⟩;have sT6:=sT5.trans s7;have hl6:=sT6 _ _ hbs;obtain⟨r6,c6,hp6⟩:=iA hgd n ⋯ hf0 hpc;have hpn:pc≠[]:=λe=>by
     have:=hp6.rc.1;have:=hp6.r0;rw[e]at *;simp at *;omega
    refine⟨_,hl6,by rw[IT];exact bp ⋯,bL (s6.trans s7) hl,?_,bs++[lq],by rw[ac];simp,by simp[hbl],pcs++[pc],by simp[hpcl],st1 pc hpc,λm b y hb1 hy1=>?_⟩
    ·rw[aj (λe=>by rw[e,hbs]at hpt';cases hpt')]
     exact sT6 _ _ hpt'
    ·have hb6:H6 b=some (.lst (aD y))/\y≠[]:=by
      by_cases hm':m<bs.length
      ·rw[Jm hm']at hb1
       rw[Jm ⋯]at hy1;exact⟨sT6 _ _ (hbat m b y hb1 hy1).1,(hbat m b y hb1 hy1).2⟩
      ·rw[Jl ⋯]at hb1
       have hm2:m=bs.length:=by
        have:=(IR.mp hb1).1;simp at this;omega
       subst hm2;rw[Nat.sub_self]at hb1;cases hb1;rw[Jl ⋯,show bs.length-pcs.length=0 by omega]at hy1;cases hy1;exact⟨hlq,hpn⟩
     rw[aj (mY hl6 hb6.1 hb6.2)];exact hb6
   ·rintro σ H' ⟨sm,hpt',⟨bs,pcs,hbs,hbl,hpcl,hlay,hbat⟩,z1,z2,rfl⟩
    refine h1 _ _ ?_;walk_at "wp";obtain⟨lk,pn,t0,ha,hkk,hrs,hN,hmm⟩:=id (hG.up sm);have hlr:i<as.length:=by rw[hrs.1];exact hil
    obtain⟨b,hb'⟩:∃b,as[i]?=some b:=⟨_,IQ hlr⟩;have yaE:=hrs.2 i b r hb' hri;have hgr:=hgd r (IW hri);rw[hvl]at hbl hpcl hlay;rw[<- dZ rs t ps,JB]at hlay;rw[hlay]at q bad;have yaN:m8 H' l bs pcs:=⟨hbs,⋯,λm h1 h2=>(hbat m _ _ (IQ h1) (IQ h2)).1⟩;have hfit:ly r.1 pcs:=nA hgr.k4 ⋯ (iU hlay λx hx p' hp'=>by
     obtain⟨j,hj⟩:=List.getElem?_of_mem hx;have hjl:j<t.ps.length:=by rw[<- dZ rs t ps];exact(IR.mp hj).1
     rw[dY (IQ hjl)]at hj;cases hj;have:=(aK.lt (I_ hjl)).1;exact iA hgd n ⋯ (hsub _ (I_ hjl)) hp')
    have hmk:Cf rs t.i pcs=dF r.1 r.2 pcs:=by unfold Cf;rw[hi,Ja,hri]
    refine⟨_,_,ha,rfl,_,bc.of (sm _ _ hta),_,jj _ _,g,dx,sg,st,as,rs,i,b,rfl,hG.up sm,hb',?_⟩
    try dsimp only
    refine xW yaE (hgr.good.ok r.1) yaN hfit (λp hp l' H7 h0 h7 s7=>q p (by show fF rs t.i pcs ps=.inr p;unfold fF;rw[hmk,hp]) l' H7 (eQ sm h0) h7 (sm.trans s7)) λhno=>⟨zfa,rfl,_,_,zib,und,λea hea=>⟨ai nofun,λp hp=>⟨ai nofun,ae hp _ _ ac,λd hd=>?_⟩⟩⟩;have sx:=ae (o:=El ea (.ref zfa) none) hea;refine gP.made (bad ps (by show fF rs t.i pcs ps=.inl ps;unfold fF;rw[hmk,hno])) (sm.trans sx) ((sm.trans sx).sqT hpl) hp hd
noncomputable abbrev vw:Stmt:=eJ 15
def ip(R:RC)(CG:Addr)(H:Hp)(g:Addr)(v:V)(rs:Yaa)(t:aK):Prop:=∃(dx:Addr) (sg st:JV) (as:JY),hV R H CG dx g sg st as rs/\(∀r∈rs,iw r)/\rs.length<=24/\bH H t.d v/\t.dep<=60
theorem ip.up{R:RC}{CG:Addr}{H H':Hp}{g:Addr}{v:V}{rs:Yaa}{t:aK}(h:ip R CG H g v rs t)(s:az H H'):ip R CG H' g v rs t:=by
 obtain⟨dx,sg,st,as,h1,h2,h3,h4,h5⟩:=h;exact⟨dx,sg,st,as,h1.up s,h2,h3,h4.up (b0.of s) _,h5⟩
inductive sj(K:W.Frag)(R:RC)(CG CF:Addr)(vs:List V)(H:Hp)(Q:VK)(E:XK):Prop
 |mk (g:Addr) (v:V) (rs:Yaa) (t:aK) (_:vs=[.ref g,v]) (_:ip R CG H g v rs t) (_:(b9 rs t=none->∀p,cq rs t []=.inr p->bS H p Q)) (_:∀y,b9 rs t=some y->gP K CF H E y)
theorem CM:aE ["grammar","tree"] ["grammar","tree"] (ak vw):=by walk_at "c"
theorem BS{R:RC}{f CG yaa:Addr}{fd:J0}(F:cF K "laid" "laid" vw f fd)(nb:NB mg)(yaz:cY P w K mg base (dz P w) 64 "check_form" ["grammar","tree","place","name"] (fG K R CG yaa 60))(yaA:cY P w K mg base (vK P w) 65 "lay" ["grammar","tree","place"] (vO K R CG yaa 60)):bb P w K mg base (vK P w) 66 f fd ["grammar","tree"] (sj K R CG yaa):=by
 have sc:=CM;walk_at "y"
 ·obtain⟨g,v,rs,t,rfl,_⟩:=h;rfl
 ·obtain⟨g,v,rs,t,rfl,⟨dx,sg,st,as,hG,hgd,h24,ht,hd⟩,q,bad⟩:=h
  refine⟨_,(ag (bJ (aO (E:=E) yaz (hr.mono nofun) rfl (dI λ_ _ _ h=>h) (aa (am 0) (aa (am 1) (aa (aP ad) (aa bU ad))))))
   (ah (aG (aO (E:=E) yaA (hr.mono nofun) rfl (dI λ_ _ _ h=>h) (aa (am 0) (aa (am 1) (aa (aP ad) ad))))))),?_⟩
  walk_at "wp";refine⟨Jp _,λp1 hp1=>?_⟩;have s1:=ae (o:=.tup []) hp1;refine⟨g,v,p1,dx,sg,st,as,rs,t,[],none,rfl,hG.up s1,h24,ht.up (b0.of s1) _,hd,bc.of ac,by simp,λhcf H2 s2=>⟨Jp _,λp2 hp2=>?_⟩,λy hy=>(bad y (by unfold b9;rw[hy])).up s1⟩;have s3:=(s1.trans s2).trans (ae (o:=.tup []) hp2);refine⟨g,v,p2,dx,sg,st,as,rs,t,[],rfl,hG.up s3,hgd,ht.up (b0.of s3) _,⟨_,_,hcf⟩,hd,bc.of ac,by simp,λp hp l H4 h0 h4 s4=>q (by unfold b9;rw[hcf,hp]) p hp l H4 (eQ s3 h0) h4 (s3.trans s4),λy hy=>(bad _ (by unfold b9;rw[hcf,hy])).up s3⟩
def fP(K:W.Frag)(H:Hp)(v:V)(y:ve):Prop:=∃tp p,v=.ref tp/\H tp=some (.tup [.str y.1,.ref p])/\bc K H p (iK y.2)
noncomputable abbrev qM:Stmt:=eJ 68
inductive kh(K:W.Frag)(n:Nat)(vs:List V)(H:Hp)(Q:VK)(_E:XK):Prop
 |mk (lr:Addr) (v:V) (pl:Addr) (tl:JY) (rs:Yaa) (t:aK) (ps:JV) (_:vs=[.ref lr,v,.ref pl]) (_:bV H lr tl rs) (_:(∀r∈rs,iw r)) (_:bH H t.d v) (_:Fm rs t) (_:t.dep<=n) (_:bc K H pl (iK ps)) (_:ps.length+n<=100) (_:(∀p,cq rs t ps=.inr p->∀tp l H',H' tp=some (.tup [.ref l,.non])->H' l=some (.lst (aD p))->az H H'->Q (.ref tp) H')) (_:∀q,cq rs t ps=.inl q->∀tp u H',H' tp=some (.tup [.non,u])->fP K H' u (Str.ofString "fit",q)->az H H'->Q (.ref tp) H')
theorem uf:aE ["_law_rules","_law_tree","_law_place","_law_pictures","_law_k","_law_picture","_law_fault_here"] ["_law_rules","_law_tree","_law_place"] (ak qM):=by walk_at "c"
theorem fP.up{H H':Hp}{v:V}{y:ve}(h:fP K H v y)(s:az H H'):fP K H' v y:=by
 obtain⟨tp,p,rfl,h1,h2⟩:=h;exact⟨tp,p,rfl,s _ _ h1,s.sqT h2⟩
theorem uy{f:Addr}{fd:J0}(F:cF K "_law_lay" "_law_lay" qM f fd)(nb:NB mg)(zEa:cY P w K mg base bD 3 "_law_put" ["_law_told_here","_law_pictures"] kP)(hm:mg "_law_lay"=some (.ref f))(hk:W.keepIn K (.ref f)=true)(hb:cI K fd ["_law_rules","_law_tree","_law_place"] []):∀n,n<=60->bb P w K mg base bD (n+4) f fd ["_law_rules","_law_tree","_law_place"] (kh K n)
 |0,_=>by
  refine F.ok uf (λvs H Q E h=>?_) (λcdv A outer s H vs Q E hr h=>?_)
  ·obtain⟨lr,v,pl,tl,rs,t,ps,rfl,_⟩:=h;rfl
  ·obtain⟨lr,v,pl,tl,rs,t,ps,rfl,_,_,_,_,hd,_⟩:=h
   have:=t.dep1;omega
 |n+1,hn=>by
  have sc:=uf;have zIa:cY P w K mg base bD (n+4) "_law_lay" ["_law_rules","_law_tree","_law_place"] (kh K n):=⟨f,fd,uy F nb zEa hm hk hb n ⋯,hm,hk,hb⟩;walk_at "f"
  ·obtain⟨lr,v,pl,tl,rs,t,ps,rfl,_⟩:=h;rfl
  ·obtain⟨lr,v,pl,tl,rs,t,ps,rfl,hR,hgd,ht,hfm,hd,hpl,hz,q,bad⟩:=h
   refine⟨_,(ag (aM (i:=3) sc.nd rfl (Or.inl rfl) (bw ad))
   (ag (bK PassesOwn.never rfl (xJ rfl nb.range (bB (aa (au dH rfl nb.len aR (aa (am 1) ad)) ad))) (aF (i:=4) sc.nd rfl (Or.inl rfl))
   (ag (iD (aO zIa (hr.mono ⋯) rfl ba (aa (am 0) (aa (ay aA (am 1) (am 4) (λ_ _=>rfl)) (aa (aq jQ (am 2) (aP (aa (aq (aZ.m0 fJ) (am 4) af) ad))) ad)))) (eF (n:=2) rfl (a_ (aF (i:=5) sc.nd rfl (Or.inl rfl)) (a_ (aF (i:=6) sc.nd rfl (Or.inl rfl)) cM))))
   (ag (bd (aB gy (am 6) bU (aI _))
   (ah (aG (aP (aa bU (aa (am 6) ad)))))
   aL)
   (ah (bJ (eO PySem.F.plainAttrs_list PySem.F.slot_list_append PySem.F.type_list_append cg (am 3) (aa (am 5) ad)))))))
   (ag (aM (i:=5) sc.nd rfl (Or.inl rfl) (aO zEa (hr.mono ⋯) rfl ba (aa (ay aV (am 0) (ay aA (am 1) af (λ_ _=>rfl)) (λ_ _=>rfl)) (aa (am 3) ad))))
   (ag (bd (aB ol (am 5) bU (aI _))
   (ah (aG (aP (aa bU (aa (aP (bg (aa (am 2) ad))) ad)))))
   aL)
   (ah (aG (aP (aa (am 5) (aa bU ad))))))))),?_⟩
   obtain⟨a,vs,rfl,hta,htr⟩:=aK.val ht;have hvl:=bE htr;have hps:=t.plen;obtain⟨i,r,hi,hri,hpar,hsub⟩:=hfm.node;have hil:i<rs.length:=(IR.mp hri).1;rw[hi]at hta;rw[rH]at q bad;walk_at "n";refine⟨Jp _,λl hl=>h1 _ _ ?_⟩;walk_at "nc";have s1:=ae (o:=.lst []) hl;have e1:aC H l (.lst []) l=some (.lst []):=ac;generalize aC H l (.lst [])=H1 at s1 e1 ⊢;refine⟨_,bc.of (s1 _ _ hta),nofun,by rw[Jc];omega,by rw[Jc];omega,?_⟩;rw[show(((V.int (i:Int)::vs).length:Int)-1).toNat=vs.length by rw[Jc];omega];refine dJ (lo:=1) (n:=vs.length) (λj σ H'=>az H H'/\(∃(bs:JY) (pcs:List bC),H' l=some (.lst (bs.map V.ref))/\bs.length=j/\pcs.length=j/\d8 rs ((mO rs t ps).take j)=.inr pcs/\∀(m:Nat) b p,bs[m]?=some b->pcs[m]?=some p->H' b=some (.lst (aD p))/\p≠[])/\∃z1 z2 z3,σ=[some (V.ref lr),some (V.ref a),some (V.ref pl),some (V.ref l),z1,z2,z3]) ⟨s1,⟨[],[],e1,rfl,rfl,by rw[JP];rfl,λm b y h=>by simp at h⟩,_,_,_,rfl⟩ ?_ ?_
   ·rintro j σ H' hj ⟨sm,⟨bs,pcs,hbs,hbl,hpcl,hlay,hbat⟩,z1,z2,z3,rfl⟩
    have hvj:vs[j]?=some vs[j]:=IQ hj;obtain⟨s0,hs0,ht0⟩:=dG htr hvj;have hjl:j<t.ps.length:=(IR.mp hs0).1;obtain⟨st1,st2⟩:=qw hlay (dY (rs:=rs) (pl:=ps) hs0);have hlt:=(aK.lt (IW hs0)).1;have hat:fC (V.int (i:Int)::vs) (1+(j:Int))=some vs[j]:=by
     rw[show(1+(j:Int))=((j+1:Nat):Int) by omega];exact aT (by rw[Jt];exact hvj)
    walk_at "o";refine⟨_,bc.of (sm _ _ hta),_,hat,ai nofun,λp1 hp1=>?_⟩;rw[show(1+(j:Int)-1)=(j:Int) by omega];have sU:=ae (o:=.tup [V.int (j:Int)]) hp1;have eU:aC H' p1 (.tup [V.int (j:Int)]) p1=some (.tup [V.int (j:Int)]):=ac;generalize aC H' p1 (.tup [V.int (j:Int)])=H4 at sU eU ⊢;have s4:=sm.trans sU;refine⟨_,s4.sqT hpl,_,bc.of eU,by rw[eW];exact ai (by simp;omega),λpp H5 hpp s5=>?_⟩;rw[ky]at hpp;have s6:=s4.trans s5;have hf0:=hsub s0 (IW hs0);refine⟨lr,vs[j],pp,tl,rs,s0,ps++[j],rfl,hR.up s6,hgd,ht0.up (b0.of s6) _,hf0,⋯,hpp,by simp;omega,λpc hpc tp l1 H6 htp hl1 s7=>?_,λy hy tp u H6 htp hu s7=>?_⟩
    ·refine⟨tp,rfl,_,bc.of htp,rfl,_,_,rfl,_,_,rfl,rfl,h2 _ _ ?_⟩
     clear h2;have sT6:=(sU.trans s5).trans s7;have hl6:=sT6 _ _ hbs;obtain⟨r6,c6,hp6⟩:=iA hgd n ⋯ hf0 hpc;have hpn:pc≠[]:=λe=>by
      have:=hp6.rc.1;have:=hp6.r0;rw[e]at *;simp at *;omega
     walk_at "wp";refine br (λe=>absurd trivial e) λ_=>?_;refine⟨.inl ⟨rfl,_,aW.of hl6⟩,_,hl6,by rw[IT];exact bp ⋯,bL (s6.trans s7) hl,bs++[l1],by rw[ac];simp,by simp[hbl],pcs++[pc],by simp[hpcl],st1 pc hpc,λm b y hb1 hy1=>?_⟩;have hb6:H6 b=some (.lst (aD y))/\y≠[]:=by
      by_cases hm':m<bs.length
      ·rw[Jm hm']at hb1
       rw[Jm ⋯]at hy1;exact⟨sT6 _ _ (hbat m b y hb1 hy1).1,(hbat m b y hb1 hy1).2⟩
      ·rw[Jl ⋯]at hb1
       have hm2:m=bs.length:=by
        have:=(IR.mp hb1).1;simp at this;omega
       subst hm2;rw[Nat.sub_self]at hb1;cases hb1;rw[Jl ⋯,show bs.length-pcs.length=0 by omega]at hy1;cases hy1;exact⟨hl1,hpn⟩
     rw[aj (mY hl6 hb6.1 hb6.2)];exact hb6
    ·refine⟨tp,rfl,_,bc.of htp,rfl,_,_,rfl,_,_,rfl,rfl,h2 _ _ ?_⟩
     clear h2;walk_at "wp";obtain⟨tq,pq,rfl,hu1,hu2⟩:=hu;refine br (λ_=>?_) λe=>absurd (λe=>by cases e) e;refine⟨ai nofun,λp9 hp9=>bad y (by rw[st2 y hy]) p9 _ _ ac ?_ ((s6.trans s7).trans (ae hp9))⟩;exact fP.up ⟨tq,pq,rfl,hu1,hu2⟩ (ae hp9)
   ·rintro σ H' ⟨sm,⟨bs,pcs,hbs,hbl,hpcl,hlay,hbat⟩,z1,z2,z3,rfl⟩
    refine h1 _ _ ?_;clear h1;have hgr:=hgd r (IW hri);rw[hvl]at hbl hpcl hlay;rw[<- dZ rs t ps,JB]at hlay;rw[hlay]at q bad;have yaN:m8 H' l bs pcs:=⟨hbs,⋯,λm h1 h2=>(hbat m _ _ (IQ h1) (IQ h2)).1⟩;have hfit:ly r.1 pcs:=nA hgr.k4 ⋯ (iU hlay λx hx p' hp'=>by
     obtain⟨j,hj⟩:=List.getElem?_of_mem hx;have hjl:j<t.ps.length:=by rw[<- dZ rs t ps];exact(IR.mp hj).1
     rw[dY (IQ hjl)]at hj;cases hj;have:=(aK.lt (I_ hjl)).1;exact iA hgd n ⋯ (hsub _ (I_ hjl)) hp')
    have hmk:Cf rs t.i pcs=dF r.1 r.2 pcs:=by unfold Cf;rw[hi,Ja,hri]
    have hR':=hR.up sm;obtain⟨ti,hti⟩:∃ti,tl[i]?=some ti:=⟨_,IQ (by rw[hR.2.1];exact hil)⟩;walk_at "o";refine⟨_,bc.of (sm _ _ hta),_,jj _ _,_,_,rfl,aW.of hR'.1,V.ref ti,aT (by rw[IV,hti];rfl),?_⟩;have hrow:=hR'.2.2 i ti r hti hri;refine⟨ti,l,r,bs,pcs,rfl,hrow,hgr.k4,hgr.good.t0,hgr.good.t7,yaN,hfit,λp hp l2 H7 hl2 s7=>h2 _ _ ?_,λhno H7 s7=>h2 _ _ ?_⟩
    ·clear h2
     walk_at "wp";exact⟨ai nofun,λp9 hp9=>q p (by show fF rs t.i pcs ps=.inr p;unfold fF;rw[hmk,hp]) p9 l2 _ ac (ae hp9 _ _ hl2) ((sm.trans s7).trans (ae hp9))⟩
    ·clear h2
     walk_at "wp";refine⟨ai nofun,λp8 hp8=>⟨ai nofun,λp9 hp9=>?_⟩⟩;have s8:=ae (o:=.tup [V.str (Str.ofString "fit"),V.ref pl]) hp8;have s9:=ae (o:=.tup [V.non,V.ref p8]) hp9;exact bad ps (by show fF rs t.i pcs ps=.inl ps;unfold fF;rw[hmk,hno]) p9 _ _ ac ⟨p8,pl,rfl,s9 _ _ ac,(((sm.trans s7).trans s8).trans s9).sqT hpl⟩ (((sm.trans s7).trans s8).trans s9)
structure FE where
 a:Addr
 v:V
 p:Addr
 t:aK
 pl:List Nat
 w:Option (List Nat)
def FE.at(K:W.Frag)(H:Hp)(n:Nat)(x:FE):Prop:=H x.a=some (.tup [x.v,.ref x.p,Db x.w])/\bH H x.t.d x.v/\bc K H x.p (iK x.pl)/\x.pl.length+x.t.dep<=n
theorem FE.at.up{H H':Hp}{n:Nat}{x:FE}(h:x.at K H n)(s:NL H H'):x.at K H' n:=⟨s.tup _ _ h.1,h.2.1.up s.tup _,s.sqT h.2.2.1,h.2.2.2⟩
noncomputable def FE.kid(x:FE):tF:=(x.t,x.pl,x.w)
noncomputable def gu(xs:List FE):Nat:=(xs.map λx=>x.t.cnt).sum
theorem oO(xs ys:List FE):gu (xs++ys)=gu xs+gu ys:=by unfold gu;rw[Jd,List.sum_append]
theorem t8(x:FE):gu [x]=x.t.cnt:=by unfold gu;simp
theorem oq:∀(xs:List FE),xs.length<=gu xs
 | []=>by simp[gu]
 |x::xs=>by have:=oq xs;have:=x.t.cnt1;unfold gu at *;simp;omega
theorem xK{c:TT}{tb:TS}{D:gY}{σ:St}{H:Hp}(h:∀tb',tb'=tb->vE c tb' D σ H):vE c tb D σ H:=h tb rfl
theorem AW(rs:Yaa)(t:aK)(pl:JV):(mO rs t pl).map Prod.fst=t.ps:=by cases t<;>rfl
def FS(K:W.Frag)(H:Hp)(v:V)(rs:Yaa)(t:aK)(lr ll:Addr)(m:Nat)(σ:St)(H':Hp):Prop:=az H H'/\(∃xs:List FE,H' ll=some (.lst (xs.map λx=>V.ref x.a))/\(∀x∈xs,x.at K H' 100)/\pY rs (xs.reverse.map FE.kid)=cf rs t [] none/\gu xs<=1000/\m=gu xs)/\∃z1 z2 z3 z4 z5,σ=[some (V.ref lr),some v,some (V.ref ll),z1,z2,z3,z4,z5]
noncomputable abbrev k8:Stmt:=eJ 69
inductive nj(K:W.Frag)(vs:List V)(H:Hp)(Q:VK)(_E:XK):Prop
 |mk (lr:Addr) (v:V) (tl:JY) (rs:Yaa) (t:aK) (_:vs=[.ref lr,v]) (_:bV H lr tl rs) (_:(∀r∈rs,iw r)) (_:rs.length<=24) (_:bH H t.d v) (_:t.dep<=60) (_:t.cnt<=1000) (_:(b9 rs t=none->∀H',az H H'->Q .non H')) (_:∀y,b9 rs t=some y->∀v H',fP K H' v y->az H H'->Q v H')
theorem vQ:aE ["_law_rules","_law_tree","_law_left","_law_here","_law_place","_law_wanted","_law_parts_here","_law_k"] ["_law_rules","_law_tree"] (ak k8):=by walk_at "c"
theorem vc{f:Addr}{fd:J0}(F:cF K "_law_fault" "_law_fault" k8 f fd)(nb:NB mg)(zLc:cY P w K mg base bD 1 "_law_parts" ["_law_told_here"] nY)(zIa:cY P w K mg base bD 64 "_law_lay" ["_law_rules","_law_tree","_law_place"] (kh K 60)):bb P w K mg base bD 65 f fd ["_law_rules","_law_tree"] (nj K):=by
 have sc:=vQ;walk_at "f"
 ·obtain⟨lr,v,tl,rs,t,rfl,_⟩:=h;rfl
 ·obtain⟨lr,v,tl,rs,t,rfl,hR,hgd,h24,ht,hd,hc,q,bad⟩:=h
  refine⟨_,(ag (aM (i:=2) sc.nd rfl (Or.inl rfl) (bw (aa (aP (aa (am 1) (aa (aP ad) (aa bU ad)))) ad)))
   (ag (uk PassesOwn.never (aB (aZ.m0 gW) (au aQ rfl nb.len aR (aa (am 2) ad)) af (aI _)) (ag (iD (By PySem.F.plainAttrs_list PySem.F.slot_list_pop PySem.F.type_list_pop BC (am 2)) (eF (n:=3) rfl (a_ (aF (i:=3) sc.nd rfl (Or.inl rfl)) (a_ (aF (i:=4) sc.nd rfl (Or.inl rfl)) (a_ (aF (i:=5) sc.nd rfl (Or.inl rfl)) cM)))))
   (ag (bd (PW.pt (fU (aB (aZ.m0 lZ) (ay aA (am 3) af (λ_ _=>rfl)) af (aI _)) (d9 (aB (aZ.m0 Br) (ay aA (am 3) af (λ_ _=>rfl)) (au aQ rfl nb.len aR (aa (am 0) ad)) (aI _)))))
   (ah (aG (aP (bg (aa (am 4) ad)))))
   aL)
   (ag (aM (i:=6) sc.nd rfl (Or.inl rfl) (aO zLc (hr.mono nofun) rfl ba (aa (ay aV (am 0) (ay aA (am 3) af (λ_ _=>rfl)) (λ_ _=>rfl)) ad)))
   (ag (bd (aB jb (aq (aZ.m0 fJ) (au dH rfl nb.len aR (aa (am 3) ad)) af) (au aQ rfl nb.len aR (aa (am 6) ad)) (aI _))
   (ah (aG (aP (bg (aa (am 4) ad)))))
   aL)
   (ag (bd (PW.pt (jJ (aB gy (am 5) bU (aI _)) (kO (aB jb (ay aA (ay aV (am 0) (ay aA (am 3) af (λ_ _=>rfl)) (λ_ _=>rfl)) af (λ_ _=>rfl)) (am 5) (aI _)))))
   (ah (aG (aP (bg (aa (am 4) ad)))))
   aL)
   (ah (bK PassesOwn.never rfl (BZ rfl nb.reversed rfl nb.range (aa (au aQ rfl nb.len aR (aa (am 6) ad)) ad)) (aF (i:=7) sc.nd rfl (Or.inl rfl))
   (ah (bJ (eO PySem.F.plainAttrs_list PySem.F.slot_list_append PySem.F.type_list_append cg (am 2) (aa (aP (aa (ay aA (am 3) (aq (aZ.m0 bx) af (am 7)) (λ_ _=>rfl)) (aa (aq jQ (am 4) (aP (aa (am 7) ad))) (aa (ay aV (am 6) (am 7) (λ_ _=>rfl)) ad)))) ad))))))))))))
   (ah (aG (ay aA (aO zIa (hr.mono nofun) rfl ba (aa (am 0) (aa (am 1) (aa (aP ad) ad)))) af (λ_ _=>rfl)))))),?_⟩
  walk_at "n";refine⟨Jp _,λp1 hp1=>⟨ai nofun,λp2 hp2=>⟨ai nofun,λll hll=>h1 _ _ ?_⟩⟩⟩;clear h1;have sA:=ae (o:=.tup []) hp1;have eA:aC H p1 (.tup []) p1=some (.tup []):=ac;generalize aC H p1 (.tup [])=H2 at sA eA hp2 hll ⊢;have sB:=ae (o:=.tup [v,V.ref p1,V.non]) hp2;have eB:aC H2 p2 (.tup [v,V.ref p1,V.non]) p2=some (.tup [v,V.ref p1,V.non]):=ac;generalize aC H2 p2 (.tup [v,V.ref p1,V.non])=H3 at sB eB hll ⊢;have sC:=ae (o:=.lst [V.ref p2]) hll;have eC:aC H3 ll (.lst [V.ref p2]) ll=some (.lst [V.ref p2]):=ac;have s03:=sA.trans sB;have hll0:H ll=none:=eQ s03 hll;generalize aC H3 ll (.lst [V.ref p2])=H4 at sC eC ⊢;have s04:=s03.trans sC;refine ao λN1 h1=>?_;refine xK λtb etb=>?_;have hcp:gu [⟨p2,v,p1,t,[],none⟩]=t.cnt:=t8 _;refine⟨FS K H v rs t lr ll,⟨_,s04,⟨[⟨p2,v,p1,t,[],none⟩],eC,λx hx=>?_,?_,by rw[hcp];exact hc,rfl⟩,_,_,_,_,_,rfl⟩,?_⟩
  ·rw[IU.mp hx]
   exact⟨sC _ _ eB,ht.up (b0.of s04) _,bc.of (sC _ _ (sB _ _ eA)),by simp;omega⟩
  ·show pY rs [(t,[],none)]=_
   rw[cX];cases cf rs t [] none<;>rfl
  rintro m σ H' ⟨sm,⟨xs,hl',hxs,hcf,hcnt,rfl⟩,z1,z2,z3,z4,z5,rfl⟩;have hxl:=oq xs;walk_at "wp";refine⟨_,aW.of hl',?_⟩;rw[IT];rcases List.eq_nil_or_concat xs with rfl | ⟨ys,x,hyx⟩
  ·rw[if_neg (by simp)]
   refine h1 _ _ ?_;walk_at "wp";have hcf0:cf rs t [] none=none:=hcf.symm;refine⟨Jp _,λp5 hp5=>?_⟩;have s5:=sm.trans (ae (o:=.tup []) hp5);refine⟨lr,v,p5,tl,rs,t,[],rfl,hR.up s5,hgd,ht.up (b0.of s5) _,⟨_,_,hcf0⟩,hd,bc.of ac,by simp,λp hp tp l H6 htp hl s6=>⟨tp,rfl,_,bc.of htp,V.non,rfl,?_⟩,λy hy tp u H6 htp hu s6=>⟨tp,rfl,_,bc.of htp,u,rfl,?_⟩⟩
   ·exact q (by unfold b9;rw[hcf0,hp]) H6 (s5.trans s6)
   ·exact bad _ (by unfold b9;rw[hcf0,hy]) u H6 hu (s5.trans s6)
  rw[JR]at hyx;subst hyx;rw[if_pos (by simp)];refine⟨λσ2 H2=>∃m',m'<gu (ys++[x])/\FS K H v rs t lr ll m' σ2 H2,λσ' H' h=>h,?_⟩;obtain⟨hxa,hxt,hxp,hxd⟩:=hxs x (by simp);have lst1:((ys++[x]).map λx=>V.ref x.a)[((ys++[x]).map λx=>V.ref x.a).length-1]?=some (V.ref x.a):=by simp
  have lst2:((ys++[x]).map λx=>V.ref x.a).dropLast=ys.map λx=>V.ref x.a:=by rw[Jd];simp
  have n2:NL H' (aC H' ll (.lst (ys.map λx=>V.ref x.a))):=NL.put hl';have l2:aC H' ll (.lst (ys.map λx=>V.ref x.a)) ll=some (.lst (ys.map λx=>V.ref x.a)):=ac;have s2:az H (aC H' ll (.lst (ys.map λx=>V.ref x.a))):=bL sm hll0;rw[etb];walk_at "o";refine⟨.inl ⟨rfl,_,aW.of hl'⟩,_,hl',_,lst1,_,rfl,?_⟩;rw[lst2];generalize aC H' ll (.lst (ys.map λx=>V.ref x.a))=H2 at n2 l2 s2 ⊢;refine⟨_,bc.of (n2.tup _ _ hxa),rfl,_,_,rfl,_,_,rfl,_,_,rfl,rfl,h2 _ _ ?_⟩;clear h2;obtain⟨a,vs,hva,hta,htr⟩:=aK.val (hxt.up n2.tup _);rw[hva];have hvl:=bE htr;have hpl2:=x.t.plen;have hcx:gu (ys++[x])=gu ys+x.t.cnt:=by rw[oO,t8]
  have hcs:=x.t.cnt_eq;have hcfx:cf rs t [] none=match hJ rs x.t.i x.t.ps.length x.pl x.w with
    |some y=>some y
    |none=>pY rs (mO rs x.t x.pl++ys.reverse.map FE.kid):=by
   rw[<- hcf,List.reverse_append,Jd,iH];show(match pY rs [(x.t,x.pl,x.w)]with | some y=>some y | none=>_)=_;rw[cX,Ba,iH]
   try dsimp only
   cases hJ rs x.t.i x.t.ps.length x.pl x.w with
   |some y=>rfl
   |none=>dsimp only;cases pY rs (mO rs x.t x.pl)<;>rfl
  have badE:∀(w:Str) (H':Hp),hJ rs x.t.i x.t.ps.length x.pl x.w=some (w,x.pl)->az H2 H'->2<=sizeLine/\∀p,H' p=none->Q (.ref p) (aC H' p (.tup [V.str w,V.ref x.p])):=λw H' e s'=>
   ⟨ai nofun,λp hp=>bad (w,x.pl) (by unfold b9;rw[hcfx,e]) _ _ ⟨p,x.p,rfl,ac,(s'.trans (ae hp)).sqT (n2.sqT hxp)⟩ (s2.trans (s'.trans (ae hp)))⟩
  have hR2:=hR.up s2;walk_at "o";have hrl:(tl.map V.ref).length=rs.length:=by rw[IT,hR.2.1]
  refine⟨_,bc.of hta,_,jj _ _,_,rfl,br (λhlt=>?_) λhlt=>⟨_,bc.of hta,_,jj _ _,_,aW.of hR2.1,_,rfl,br (λhge=>?_) λhge=>h2 _ _ ?_⟩⟩
  ·refine badE (Str.ofString "number") H2 ?_ (az.refl _)
   unfold hJ;rw[if_pos (.inl hlt)]
  ·refine badE (Str.ofString "number") H2 ?_ (az.refl _)
   unfold hJ;rw[if_pos (.inr ⋯)]
  clear h2;rw[hrl]at hge;obtain⟨i,hi⟩:∃i:Nat,x.t.i=(i:Int):=⟨x.t.i.toNat,⋯⟩;have hil:i<rs.length:=by omega
  obtain⟨r,hri⟩:∃r,rs[i]?=some r:=⟨_,IQ hil⟩;obtain⟨ti,hti⟩:∃ti,tl[i]?=some ti:=⟨_,IQ (by rw[hR.2.1];exact hil)⟩;have hgr:=hgd r (IW hri);have hati:fC (tl.map V.ref) (i:Int)=some (V.ref ti):=aT (by rw[IV,hti];rfl);have hhd:hJ rs x.t.i x.t.ps.length x.pl x.w=if x.t.ps.length≠(aS r.1 r.2).length then some (Str.ofString "parts",x.pl) else if x.w≠none/\x.w≠some r.2.n then some (Str.ofString "name",x.pl) else none:=by
   unfold hJ;rw[if_neg ⋯,hi,Ja,hri]
  have hnm:∀j,dP rs x.t.i j=(aS r.1 r.2)[j]?:=λj=>by
   unfold dP;rw[hi,Ja,hri]
  rw[hi]at hta;walk_at "o";refine⟨_,bc.of hta,_,jj _ _,_,_,rfl,aW.of hR2.1,V.ref ti,hati,?_⟩;refine⟨ti,r,rfl,hR2.2.2 i ti r hti hri,hgr.k4,λlp H5 hlp0 hlp s5=>h2 _ _ ?_⟩;clear h2;have s05:=s2.trans s5;have hR5:=hR.up s05;have hta5:=s5 _ _ hta;have ybN:=hR5.2.2 i ti r hti hri;walk_at "o";refine⟨_,bc.of hta5,_,aW.of hlp,?_⟩;rw[av,Jc,hvl];refine br (λhne=>?_) λhne=>h2 _ _ ?_
  ·refine badE (Str.ofString "parts") H5 ?_ s5
   rw[hhd,if_pos ⋯]
  clear h2;have hpl1:(aS r.1 r.2).length=x.t.ps.length:=by omega
  rw[if_neg ⋯]at hhd;walk_at "o"
  suffices go:hJ rs x.t.i x.t.ps.length x.pl x.w=none->N2 [some (V.ref lr),some v,some (V.ref ll),some (V.ref a),some (V.ref x.p),some (Db x.w),some (V.ref lp),z5] H5 by
   obtain⟨xa,xv,xp,xt,xpl,xw⟩:=x;cases xw with
   |none=>
    refine br (λe=>absurd rfl e) λ_=>go ?_;rw[hhd,if_neg (λh=>h.1 rfl)]
   |some nm=>
    refine br (λ_=>?_) λe=>absurd (λe=>by cases e) e;refine⟨_,bc.of hta5,_,jj _ _,_,_,rfl,aW.of hR5.1,V.ref ti,hati,?_⟩;refine⟨ti,rfl,_,bc.of ybN,_,Ae r,rfl,br (λhne=>?_) λhne=>go ?_⟩
    ·refine badE (Str.ofString "name") H5 ?_ s5
     rw[hhd,if_pos ⟨(λh=>by cases h),λh=>hne (by cases h;rfl)⟩]
    ·have e:tx r.2.n=tx nm:=by
      have e:=Classical.not_not.mp hne;unfold Db at e;cases e
      rfl
     rw[hhd,if_neg (λh=>h.2 (by rw[fA e]))]
  intro hno;refine h2 _ _ ?_;clear h2;rw[hno]at hcfx;walk_at "wp";have hlne:lp≠ll:=λe=>by rw[e,l2]at hlp0;cases hlp0
  have hN:(aD (aS r.1 r.2)).length=x.t.ps.length:=by rw[av,hpl1]
  refine⟨_,aW.of hlp,⋯,⋯,?_⟩;rw[hN,Ja];have hN0:((x.t.ps.length:Nat):Int)-1=(x.t.ps.length:Int)-1:=rfl;have hkl:=dZ rs x.t x.pl;refine uU (hi:=(x.t.ps.length:Int)-1) (n:=x.t.ps.length) (λj σ H'=>az H H'/\NL H5 H'/\(∃zs:List FE,H' ll=some (.lst ((ys++zs).map λx=>V.ref x.a))/\(∀z∈zs,z.at K H' 100)/\zs.map FE.kid=((mO rs x.t x.pl).drop (x.t.ps.length-j)).reverse/\zs.length<=j)/\H' lp=some (.lst (aD (aS r.1 r.2)))/\∃z,σ=[some (V.ref lr),some v,some (V.ref ll),some (V.ref a),some (V.ref x.p),some (Db x.w),some (V.ref lp),z]) ⟨s05,λb o h _=>h,⟨[],by rw[Jz];exact s5 _ _ l2,(λz hz=>nomatch hz),by rw[<- hkl];simp,by simp⟩,hlp,_,rfl⟩ ?_ ?_
  ·rintro j σ H6 hj ⟨sm6,n6,⟨zs,l6,hzs,hmap,hzl⟩,hlp6,z,rfl⟩
   obtain⟨k,hk⟩:∃k,x.t.ps.length=k+j+1:=⟨x.t.ps.length-j-1,⋯⟩;have hk1:((x.t.ps.length:Int)-1-(j:Int))=(k:Int):=by omega
   rw[hk1];have hkv:vs[k]?=some vs[k]:=IQ ⋯;have n56:=(NL.of s5).trans n6;obtain⟨s',hs',ht'⟩:=dG (htr.up n56.tup _) hkv;have hkp:k<(aS r.1 r.2).length:=by omega
   have hlt:=(aK.lt (IW hs')).1;walk_at "wp";have hat:fC (V.int (i:Int)::vs) (1+(k:Int))=some vs[k]:=by
    rw[show(1+(k:Int))=((k+1:Nat):Int) by omega];exact aT (by rw[Jt];exact hkv)
   refine⟨.inl ⟨rfl,_,aW.of l6⟩,_,bc.of (n56.tup _ _ hta),_,hat,ai nofun,λp1 hp1=>?_⟩;have sA:=ae (o:=.tup [V.int (k:Int)]) hp1;have eA:aC H6 p1 (.tup [V.int (k:Int)]) p1=some (.tup [V.int (k:Int)]):=ac;generalize aC H6 p1 (.tup [V.int (k:Int)])=H7 at sA eA ⊢;refine⟨_,sA.sqT (n56.sqT (n2.sqT hxp)),_,bc.of eA,by rw[eW];exact ai (by simp;omega),λpp H8 hpp sB=>?_⟩;rw[ky]at hpp;have s68:=sA.trans sB;refine⟨_,aW.of (s68 _ _ hlp6),V.str (tx (aS r.1 r.2)[k]),aT (bh hkp),ai nofun,λp2 hp2=>?_⟩;have sC:=ae (o:=.tup [vs[k],V.ref pp,V.str (tx (aS r.1 r.2)[k])]) hp2;have eC:aC H8 p2 (.tup [vs[k],V.ref pp,V.str (tx (aS r.1 r.2)[k])]) p2=some (.tup [vs[k],V.ref pp,V.str (tx (aS r.1 r.2)[k])]):=ac;generalize aC H8 p2 (.tup [vs[k],V.ref pp,V.str (tx (aS r.1 r.2)[k])])=H9 at sC eC ⊢;have s69:=s68.trans sC;have l9:=s69 _ _ l6;have n9:NL H9 (aC H9 ll (.lst (((ys++zs).map λx=>V.ref x.a)++[V.ref p2]))):=NL.put l9;have n69:=(NL.of s69).trans n9;have hys:(ys++zs).length<=1000+j:=by
    rw[hcx]at hcnt hxl;have:=oq ys;simp;omega
   refine⟨_,l9,by rw[IT];exact bp ⋯,bL (sm6.trans s69) hll0,n6.trans n69,⟨zs++[⟨p2,vs[k],pp,s',x.pl++[k],some (aS r.1 r.2)[k]⟩],by rw[ac];simp,λz hz=>?_,?_,by simp;omega⟩,by rw[aj hlne];exact s69 _ _ hlp6⟩
   ·rcases Je.mp hz with h | h
    ·exact(hzs z h).up n69
    ·rw[IU.mp h]
     exact⟨n9.tup _ _ eC,ht'.up n69.tup _,n9.sqT (sC.sqT hpp),by simp;omega⟩
   ·have e1:x.t.ps.length-(j+1)=k:=by omega
    have e2:x.t.ps.length-j=k+1:=by omega
    rw[e1,ki (dY (rs:=rs) (pl:=x.pl) hs'),Jv,Jd,hmap,e2,hnm,IQ hkp]
    rfl
  ·rintro σ H6 ⟨sm6,n6,⟨zs,l6,hzs,hmap,hzl⟩,hlp6,z,rfl⟩
   rw[Nat.sub_self,JQ]at hmap;have hcz:gu zs+1=x.t.cnt:=by
    have h1:gu zs=(((zs.map FE.kid).map Prod.fst).map aK.cnt).sum:=by unfold gu;rw[Jf,Jf];rfl
    rw[h1,hmap,List.map_reverse,AW,List.map_reverse,List.sum_reverse];omega
   refine⟨gu (ys++zs),by rw[oO,hcx];omega,sm6,⟨ys++zs,l6,λz hz=>?_,?_,?_,rfl⟩,_,_,_,_,_,rfl⟩
   ·rcases Je.mp hz with h | h
    ·exact(hxs z (by simp[h])).up ((n2.trans (NL.of s5)).trans n6)
    ·exact hzs z h
   ·rw[hcfx,List.reverse_append,Jd,List.map_reverse,hmap,List.reverse_reverse]
   ·rw[oO]
    rw[hcx]at hcnt;omega
noncomputable abbrev gM:Stmt:=eJ 70
inductive jh(K:W.Frag)(vs:List V)(H:Hp)(Q:VK)(_E:XK):Prop
 |mk (v u:V) (_:vs=[v,u]) (_:((v=.non/\u=.non)\/∃y:ve,fP K H v y/\fP K H u y/\y.2.length<=1000)) (_:∀H',az H H'->Q (.bl true) H')
theorem pA:aE ["_law_found","_law_due"] ["_law_found","_law_due"] (ak gM):=by walk_at "c"
theorem CV{H:Hp}:∀{is:JV},dM K H (is.map fun(i:Nat)=>Dt.int (i:Int)) (iK is)
 | []=>by unfold iK;rw[List.map_nil,List.map_nil];unfold dM;rfl
 |i::is=>by
  unfold iK;rw[Ju,Ju];unfold dM;exact⟨_,_,rfl,by unfold jN;rfl,CV⟩
theorem wX:∀(is:JV),Dt.deps (is.map fun(i:Nat)=>Dt.int (i:Int))=0
 | []=>by rw[List.map_nil];unfold Dt.deps;rfl
 |i::is=>by
  rw[Ju];unfold Dt.deps;rw[wX is];unfold Dt.dep
  rfl
theorem Am{H:Hp}{v:V}{y:ve}(h:fP K H v y):jN K H (.tup [.str y.1,.tup (y.2.map fun(i:Nat)=>Dt.int (i:Int))]) v:=by
 obtain⟨tp,p,rfl,h1,h2⟩:=h;unfold jN;refine⟨tp,_,rfl,bc.of h1,?_⟩;unfold dM;refine⟨_,_,rfl,by unfold jN;rfl,?_⟩;unfold dM;refine⟨_,_,rfl,?_,by unfold dM;rfl⟩;unfold jN;exact⟨p,_,rfl,h2,CV⟩
theorem pw{f:Addr}{fd:J0}(F:cF K "_law_fault_is" "_law_fault_is" gM f fd)(nb:NB mg)(zJa:cY P w K mg base bD 1 "_law_whole" ["_law_found"] jr):bb P w K mg base bD 2 f fd ["_law_found","_law_due"] (jh K):=by
 have sc:=pA;walk_at "f"
 ·obtain⟨v,u,rfl,_⟩:=h;rfl
 ·obtain⟨v,u,rfl,h,q⟩:=h
  have hu:=hr.units;refine⟨_,(ag (bd (aB ol (am 1) bU (aI _))
   (ah (aG (dS ol (am 0) bU (aI _))))
   aL)
   (ag (bd (PW.pt (fU (gG (gN (au fQ rfl nb.isinstance bP (aa (am 0) (aa (kJ (v:=.ty "tuple") rfl nb.tuple j_ rfl) ad))) λ_=>rfl)) (fU (aB jb (au dH rfl nb.len aR (aa (am 0) ad)) af (aI _)) (d9 (gG (gN (au fQ rfl nb.isinstance bP (aa (ay aA (am 0) af (λ_ _=>rfl)) (aa (kJ (v:=.ty "tuple") rfl nb.tuple j_ rfl) ad))) λ_=>rfl))))))
   (ah (aG zI))
   aL)
   (ah (aG (gi (au (uB rfl) rfl nb.all zv (aa (bO ["_law_k"] [] rfl (bu.of (by kernel_rfl)) (by kernel_rfl) (lN (ay aA (am 0) af (λ_ _=>rfl)))
    (λ_ _ _ _=>(aF (i:=0) (by show(["_law_k"]:List Str).Nodup;decide +kernel) rfl (Or.inl rfl))) (λ_ _ _ _=>bF) (λ_ _ _ _=>(aO zJa (hr.mono nofun) rfl ba (aa (am 0) ad)))) ad)) (jE (dS (vV hu) (am 0) (am 1) (aI _)))))))),?_⟩
  rcases h with⟨rfl,rfl⟩ | ⟨y,hv,hu',hyl⟩
  ·walk_at "wp"
   exact q H (az.refl _)
  ·obtain⟨tq,pq,rfl,hq1,hq2⟩:=id hu'
   obtain⟨tp,p,rfl,hp1,hp2⟩:=id hv;walk_at "n";refine h1 _ _ ?_;walk_at "nc";refine⟨_,bc.of hp1,?_⟩
   try rw[if_neg nofun]
   refine⟨_,bc.of hp1,?_⟩;rw[if_neg (by simp)];refine⟨_,bc.of hp1,_,rfl,_,rfl,_,hp2,?_⟩
   try rw[if_neg nofun]
   refine h1 _ _ ?_;clear h1;walk_at "wp";refine⟨_,bc.of hp1,_,rfl,p,rfl,⟨_,hp2⟩,?_⟩;refine uH (xs:=iK y.2) (λi acc σ H'=>H'=H/\acc=(List.replicate i (V.bl true))/\i<=(iK y.2).length/\∃z,σ=[z]) ⟨rfl,rfl,Jp _,_,rfl⟩ ?_ (λi acc σ H' h=>h.2.2.1) ?_ ?_ ?_
   ·rintro i acc σ H' ⟨_,rfl,hi,_⟩
    rw[eW]at hi;rw[List.length_replicate];exact bp ⋯
   ·rintro i acc σ H' ⟨rfl,_⟩
    exact hp2
   ·rintro i x acc σ H' hx ⟨rfl,rfl,hi,z,rfl⟩
    obtain⟨k,_,rfl⟩:=w_ hx;walk_at "wp";refine⟨_,rfl,rfl,?_,(IR.mp hx).1⟩;exact List.replicate_succ'.symm.trans List.replicate_succ
   ·rintro acc σ H' ⟨rfl,rfl,_,_⟩
    intro l hl;refine⟨List.replicate (iK y.2).length true,by rw[List.map_replicate];exact aW.of ac,?_⟩;rw[if_pos (by simp)];have sl:=ae (o:=.lst (List.replicate (iK y.2).length (V.bl true))) hl;refine .inl ⟨_,?_,.inr ⟨Am (hv.up sl),Am (hu'.up sl)⟩,q _ sl⟩;unfold Dt.deps Dt.deps Dt.deps Dt.dep;rw[wX]
    decide
theorem Gr.pos{rs:Yaa}{k:Nat}{d:Dt}{nm:JV}{p:bC}{c:Int}(g:Gr rs d nm p c k):0<rs.length:=by
 cases g with
 |cell e=>have:=(IR.mp e).1;omega
 |turn e _=>have:=(IR.mp e).1;omega
 |pair _ e _ _ _=>have:=(IR.mp e).1;omega
theorem qa{rs:Yaa}{p:bC}{x:SI}(h:kx rs p x):∃t:aK,x.d=t.d/\t.dep<=18/\t.cnt<=60/\b9 rs t=none:=by
 obtain⟨t,ht,hd⟩:=h.gr.tre;have hg:=h.gr;rw[ht]at hg;have h1:=h.m1;have h2:=h.m2;rw[ht,wK]at h1;have h3:=h.k1;exact⟨t,ht,⋯,⋯,hg.noF'⟩
theorem o5{rs:Yaa}{p:bC}:∀{xs:List SI},(∀x∈xs,kx rs p x)->∃ts:List aK,(∀x∈xs,∃t∈ts,x.d=t.d)/\∀t∈ts,t.dep<=18/\t.cnt<=60
 | [],_=>⟨[],λ_ h=>(nomatch h),λ_ h=>(nomatch h)⟩
 |x::xs,h=>by
  obtain⟨ts,h1,h2⟩:=o5 (xs:=xs) λy hy=>h y (by simp[hy]);obtain⟨t,e,h3,h4,_⟩:=qa (h x (by simp));refine⟨t::ts,λy hy=>?_,λu hu=>?_⟩
  ·rcases Jg.mp hy with rfl | hy
   ·exact⟨t,by simp,e⟩
   ·obtain⟨u,hu,e⟩:=h1 y hy
    exact⟨u,by simp[hu],e⟩
  ·rcases Jg.mp hu with rfl | hu
   ·exact⟨h3,h4⟩
   ·exact h2 u hu
theorem tR{f s:aK}:∀{pl:JV} {t:aK},Sub pl t=some s->(gl f pl t).dep<=max t.dep (pl.length+f.dep)
 | [],t,h=>by simp[gl];omega
 |k::pl,t,h=>by
  unfold Sub at h;unfold gl;cases hj:t.ps[k]? with
  |none=>rw[hj]at h;cases h
  |some u=>
   rw[hj]at h;have h2:=tR (f:=f) h;obtain⟨h3,h4⟩:=wY (u:=gl f pl u) hj;have:=(aK.lt (IW hj)).1;show(jl t.i (t.ps.set k (gl f pl u))).dep<=max t.dep (pl.length+1+f.dep);omega
theorem A1{s f:aK}(h:f.ps=s.ps.reverse):f.cnt=s.cnt/\f.dep=s.dep:=by
 have h1:f.cnt=s.cnt:=by rw[f.cnt_eq,s.cnt_eq,h,List.map_reverse,List.sum_reverse]
 refine⟨h1,?_⟩;cases s with
 |n0 i=>cases f with
  |n0 j=>rfl
  |n1 j a=>simp[aK.ps]at h
  |n2 j a b=>simp[aK.ps]at h
 |n1 i c=>cases f with
  |n0 j=>simp[aK.ps]at h
  |n1 j a=>simp[aK.ps]at h;rw[h];rfl
  |n2 j a b=>simp[aK.ps]at h
 |n2 i c d=>cases f with
  |n0 j=>simp[aK.ps]at h
  |n1 j a=>simp[aK.ps]at h
  |n2 j a b=>simp[aK.ps]at h;rw[h.1,h.2];simp only[aK.dep];omega
theorem Fl.size{ts:List aK}{t t':aK}{q:Int}(h:Fl ts t t' q)(hts:∀f∈ts,f.dep<=18/\f.cnt<=60){n m:Nat}(h1:t.cnt<=n)(h2:t.dep<=m):t'.cnt<=2*n+60/\t'.dep<=m+18:=by
 obtain⟨pl,s,f,hs,rfl,hr⟩:=h;obtain⟨a1,_⟩:=qb (f:=f) hs;have a2:=tR (f:=f) hs;have b1:=Sub.cnt hs;have b2:=Sub.len hs;have b3:=s.dep1;have b4:=s.cnt1;rcases hr with(⟨hf,_⟩ | ⟨_,hf,_⟩ | ⟨_,hf⟩) | ⟨rfl,_⟩
 ·have:=hts f hf;omega
 ·have:=A1 hf;omega
 ·omega
 ·omega
theorem v3{rs:Yaa}{i:Int}{n:Nat}{pl:JV}{w:Option (List Nat)}{y:ve}(h:hJ rs i n pl w=some y):y.2=pl:=by
 unfold hJ at h
 split at h
 ·cases h;rfl
 ·split at h
  ·cases h
  ·split at h
   ·cases h;rfl
   ·split at h
    ·cases h;rfl
    ·cases h
theorem rJ{rs:Yaa}:∀(t:aK) (pl:JV) (w:Option (List Nat)) (y:ve),cf rs t pl w=some y->y.2.length<=pl.length+t.dep
 | .n0 i,pl,w,y,h=>by unfold cf at h;rw[v3 h];omega
 | .n1 i a,pl,w,y,h=>by
  unfold cf at h;cases h0:hJ rs i 1 pl w with
  |some z=>rw[h0]at h;cases h;rw[v3 h0];omega
  |none=>
   rw[h0]at h;have:=rJ a _ _ y h;simp[aK.dep]at this ⊢;omega
 | .n2 i a b,pl,w,y,h=>by
  unfold cf at h;cases h0:hJ rs i 2 pl w with
  |some z=>rw[h0]at h;cases h;rw[v3 h0];omega
  |none=>
   rw[h0]at h;dsimp only at h;cases h1:cf rs a (pl++[0]) (dP rs i 0) with
   |some z=>
    rw[h1]at h;cases h;have:=rJ a _ _ y h1;simp[aK.dep]at this ⊢;omega
   |none=>
    rw[h1]at h;have:=rJ b _ _ y h;simp[aK.dep]at this ⊢;omega
theorem re{rs:Yaa}{i:Int}{ps:List bC}{pl q:JV}(h:fF rs i ps pl=.inl q):q=pl:=by
 unfold fF at h
 split at h
 ·cases h
 ·cases h;rfl
theorem mT{rs:Yaa}:∀(t:aK) (pl:JV) (q:JV),cq rs t pl=.inl q->q.length<=pl.length+t.dep
 | .n0 i,pl,q,h=>by unfold cq at h;rw[re h];omega
 | .n1 i a,pl,q,h=>by
  unfold cq at h;cases h0:cq rs a (pl++[0]) with
  |inl z=>
   rw[h0]at h;cases h;have:=mT a _ q h0;simp[aK.dep]at this ⊢;omega
  |inr p=>rw[h0]at h;rw[re h];omega
 | .n2 i a b,pl,q,h=>by
  unfold cq at h;cases h0:cq rs a (pl++[0]) with
  |inl z=>
   rw[h0]at h;cases h;have:=mT a _ q h0;simp[aK.dep]at this ⊢;omega
  |inr p=>
   rw[h0]at h;dsimp only at h;cases h1:cq rs b (pl++[1]) with
   |inl z=>
    rw[h1]at h;cases h;have:=mT b _ q h1;simp[aK.dep]at this ⊢;omega
   |inr p'=>rw[h1]at h;rw[re h];omega
theorem xy{rs:Yaa}{t:aK}{y:ve}(h:b9 rs t=some y):y.2.length<=t.dep:=by
 unfold b9 at h;cases h0:cf rs t [] none with
 |some z=>rw[h0]at h;cases h;have:=rJ t _ _ y h0;simpa using this
 |none=>
  rw[h0]at h;dsimp only at h;cases h1:cq rs t []with
  |inl q=>rw[h1]at h;cases h;have:=mT t _ q h1;simpa using this
  |inr p=>rw[h1]at h;cases h
noncomputable def aK.ns:aK->List Int
 | .n0 i=>[i]
 | .n1 i a=>i::a.ns
 | .n2 i a b=>i::(a.ns++b.ns)
theorem BE(t:aK):t.ns=t.i::(t.ps.map aK.ns).flatten:=by cases t<;>simp[aK.ns,aK.i,aK.ps]
theorem nZ:∀(t:aK),t.ns.length=t.cnt
 | .n0 i=>rfl
 | .n1 i a=>by simp[aK.ns,aK.cnt,nZ a]
 | .n2 i a b=>by simp[aK.ns,aK.cnt,nZ a,nZ b]
theorem qq{α:Type}{xss:List (List α)}{j:Nat}{xs:List α}(h:xss[j]?=some xs):(xss.take (j+1)).flatten=(xss.take j).flatten++xs:=by
 rw[JD,h];simp
theorem gb{α:Type}:∀(xss:List (List α)) (j:Nat),(xss.take j).flatten.length<=xss.flatten.length
 | [],_=>by simp
 |xs::xss,0=>by simp
 |xs::xss,j+1=>by have:=gb xss j;simp[-List.length_flatten] ;omega
noncomputable abbrev gB:Stmt:=eJ 17
inductive fE(n:Nat)(vs:List V)(H:Hp)(Q:VK)(_E:XK):Prop
 |mk (v:V) (t:aK) (_:vs=[v]) (_:bH H t.d v) (_:t.dep<=n) (_:t.cnt<=1000) (_:∀l H',H l=none->H' l=some (.lst (t.ns.map V.int))->az H H'->Q (.ref l) H')
theorem jc:aE ["tree","numbers","part"] ["tree"] (ak gB):=by walk_at "c"
theorem ja{f:Addr}{fd:J0}(F:cF K "numbers_in" "numbers_in" gB f fd)(nb:NB mg)(hm:mg "numbers_in"=some (.ref f))(hk:W.keepIn K (.ref f)=true)(hb:cI K fd ["tree"] []):∀n,n<=60->bb P w K mg base bD (n+1) f fd ["tree"] (fE n)
 |0,_=>by
  refine F.ok jc (λvs H Q E h=>?_) (λcdv A outer s H vs Q E hr h=>?_)
  ·obtain⟨v,t,rfl,_⟩:=h;rfl
  ·obtain⟨v,t,rfl,_,h,_⟩:=h
   have:=t.dep1;omega
 |n+1,hn=>by
  have sc:=jc;have yaC:cY P w K mg base bD (n+1) "numbers_in" ["tree"] (fE n):=⟨f,fd,ja F nb hm hk hb n ⋯,hm,hk,hb⟩;walk_at "f"
  ·obtain⟨v,t,rfl,_⟩:=h;rfl
  ·obtain⟨v,t,rfl,ht,hd,hc,q⟩:=h
   refine⟨_,(ag (aM (i:=1) sc.nd rfl (Or.inl rfl) (bw (aa (ay aA (am 0) af (λ_ _=>rfl)) ad)))
   (ag (bK PassesOwn.never rfl (lN (bY lU (am 0) (cv af) cw)) (aF (i:=2) sc.nd rfl (Or.inl rfl))
   (ah (bJ (eO PySem.F.plainAttrs_list PySem.F.slot_list_extend PySem.F.type_list_extend x8 (am 1) (aa (aO yaC (hr.mono ⋯) rfl ba (aa (am 2) ad)) ad)))))
   (ah (aG (am 1))))),?_⟩
   obtain⟨a,ys,rfl,hta,htr⟩:=aK.val ht;have hyl:=bE htr;have hps:=t.plen;rw[BE]at q;have hlen:(t.ps.map aK.ns).flatten.length+1=t.cnt:=by rw[<- nZ,BE];simp
   walk_at "n";refine⟨_,bc.of hta,_,jj _ _,ai nofun,λl hl=>h1 _ _ ?_⟩;walk_at "nc";have s1:=ae (o:=.lst [V.int t.i]) hl;have e1:aC H l (.lst [V.int t.i]) l=some (.lst [V.int t.i]):=ac;generalize aC H l (.lst [V.int t.i])=H1 at s1 e1 ⊢;refine⟨_,bc.of (s1 _ _ hta),qL _ _,λp hp=>?_⟩;rw[x_];have s2:=s1.trans (ae (o:=.tup ys) hp);have e2:=ae (o:=.tup ys) hp _ _ e1;have ep:aC H1 p (.tup ys) p=some (.tup ys):=ac;generalize aC H1 p (.tup ys)=H2 at s2 e2 ep ⊢;refine⟨⟨_,bc.of ep⟩,?_⟩;refine jS (xs:=ys) (λj σ H'=>az H H'/\H' p=some (.tup ys)/\H' l=some (.lst ((t.i::((t.ps.map aK.ns).take j).flatten).map V.int))/\∃z,σ=[some (V.ref a),some (V.ref l),z]) ⟨s2,ep,by rw[JP];exact e2,_,rfl⟩ ?_ ?_ ?_
   ·rintro j σ H' _ ⟨_,h,_⟩
    exact bc.of h
   ·rintro j x σ H' hx ⟨sm,hp',hl',z,rfl⟩
    obtain⟨s',hs',ht'⟩:=dG htr hx;have hlt:=aK.lt (IW hs');have hns:(t.ps.map aK.ns)[j]?=some s'.ns:=by rw[IV,hs'];rfl
    have b1:=gb (t.ps.map aK.ns) j;have b2:=gb (t.ps.map aK.ns) (j+1);rw[qq hns,Jn]at b2;walk_at "wp";refine⟨.inl ⟨rfl,_,aW.of hl'⟩,x,s',rfl,ht'.up (b0.of sm) _,⋯,⋯,λm H3 hm3 h3 s3=>⟨m,rfl,_,s3 _ _ hl',_,h3,?_,bL (sm.trans s3) hl,?_,?_⟩⟩
    ·simp only[IT,Jc]
     exact ai ⋯
    ·rw[aj (λe=>by rw[e,hl']at hp';cases hp')]
     exact s3 _ _ hp'
    ·rw[ac,qq hns]
     simp
   ·rintro σ H' ⟨sm,hp',hl',z,rfl⟩
    refine h1 _ _ ?_;walk_at "wp";rw[hyl,<- IT (f:=aK.ns),JB]at hl';exact q l H' hl hl' sm
noncomputable def oW(rs:Yaa)(i:Int):Int:=match rs[i.toNat]? with
 |some r=>r.2.c
 |none=>0
noncomputable def mP(rs:Yaa)(t:aK):Int:=(t.ns.map (oW rs)).sum
theorem Fm.ns{rs:Yaa}:∀(n:Nat) {t:aK},t.dep<=n->Fm rs t->∀i∈t.ns,0<=i/\i<rs.length
 |0,t,hn,_=>absurd t.dep1 ⋯
 |n+1,t,hn,h=>by
  obtain⟨m,r,h1,h2,h3,h4⟩:=h.node;intro i hi;rw[BE]at hi;rcases Jg.mp hi with rfl | hi
  ·have:=(IR.mp h2).1
   omega
  ·obtain⟨l,hl,hi⟩:=List.mem_flatten.mp hi
   obtain⟨s,hs,rfl⟩:=JG.mp hl;have:=(aK.lt hs).1;exact Fm.ns n ⋯ (h4 s hs) i hi
theorem ni{rs:Yaa}{t:aK}(h:b9 rs t=none):Fm rs t:=by
 unfold b9 at h;cases h1:cf rs t [] none with
 |some y=>rw[h1]at h;cases h
 |none=>exact⟨_,_,h1⟩
noncomputable abbrev li:Stmt:=eJ 16
inductive oY(K:W.Frag)(R:RC)(CG CF:Addr)(vs:List V)(H:Hp)(Q:VK)(E:XK):Prop
 |mk (g:Addr) (v:V) (rs:Yaa) (t:aK) (_:vs=[.ref g,v]) (_:ip R CG H g v rs t) (_:t.cnt<=1000) (_:(b9 rs t=none->∀H',az H H'->Q (.int (mP rs t)) H')) (_:∀y,b9 rs t=some y->gP K CF H E y)
theorem vW:aE ["grammar","tree"] ["grammar","tree"] (ak li):=by walk_at "c"
theorem wm{R:RC}{f CG CF:Addr}{fd:J0}(F:cF K "cost_of" "cost_of" li f fd)(nb:NB mg)(yat:mg "sum"=none)(rk:oP K R)(yae:lM P w K mg base bD 1 CG "rule" ["self","k"] (dD R CG))(yaw:cY P w K mg base (vK P w) 66 "laid" ["grammar","tree"] (sj K R CG CF))(yaC:cY P w K mg base bD 61 "numbers_in" ["tree"] (fE 60)):bb P w K mg base (vK P w) 67 f fd ["grammar","tree"] (oY K R CG CF):=by
 have sc:=vW;walk_at "y"
 ·obtain⟨g,v,rs,t,rfl,_⟩:=h;rfl
 ·obtain⟨g,v,rs,t,rfl,hL,hc,q,bad⟩:=h
  refine⟨_,(ag (bJ (aO (E:=E) yaw (hr.mono nofun) rfl (dI λ_ _ _ h=>h) (aa (am 0) (aa (am 1) ad))))
   (ah (aG (au (iV rfl) rfl yat rY (aa (bO ["number"] [0] rfl (bu.of (by kernel_rfl)) (by kernel_rfl) (c8 (aO yaC (hr.mono nofun) rfl ba (aa (am 1) ad)))
    (λ_ _ _ _=>(aF (i:=0) (by show(["number","grammar"]:List Str).Nodup;decide +kernel) rfl (Or.inl rfl))) (λ_ _ _ _=>bF) (λ_ _ _ _=>(Cd (K:=K) rfl (tB yae (hr.mono nofun) ba (am 1) (aa (am 0) ad)) rfl))) ad))))),?_⟩
  walk_at "n";refine⟨g,v,rs,t,rfl,hL,λhno p hp l0 H1 _ _ s1=>h1 _ _ ?_,bad⟩;clear h1;walk_at "wp";have hL1:=hL.up s1;obtain⟨dx,sg,st,as,hG,hgd,h24,ht,hd⟩:=id hL1;have hns:=Fm.ns 60 hd (ni hno);have hlen:=nZ t;refine⟨v,t,rfl,ht,hd,hc,λl H2 hl0 hl s2=>?_⟩;walk_at "wp";have hG2:=hG.up s2;refine⟨⟨_,aW.of hl⟩,?_⟩;refine jn (as:=t.ns) (emb:=V.int) (f:=λi=>some (V.int (oW rs i))) (λσ=>∃z,σ=[z,some (V.ref g)]) ⟨_,rfl⟩ (λH' s=>aW.of (s _ _ hl)) ⋯ ?_ ?_
  ·rintro j i hj σ H' N1 N0 ⟨z0,rfl⟩ s3 k1 _
   obtain⟨hi0,hi1⟩:=hns i (IW hj);obtain⟨n,rfl⟩:∃n:Nat,i=(n:Int):=⟨i.toNat,⋯⟩;have hn:n<rs.length:=by omega
   obtain⟨r,hri⟩:∃r,rs[n]?=some r:=⟨_,IQ hn⟩;have hG3:=hG2.up s3;obtain⟨lk,pn,t0,ha,hkk,hrs,hN,hmm⟩:=id hG3;have hlr:n<as.length:=by rw[hrs.1];exact hn
   obtain⟨b,hb'⟩:∃b,as[n]?=some b:=⟨_,IQ hlr⟩;obtain⟨rdx,rl,hrb,hrl⟩:=hrs.2 n b r hb' hri;walk_at "wp";refine⟨_,_,ha,rfl,g,dx,sg,st,as,rs,n,b,rfl,hG3,hb',_,rfl,_,_,_,hrb,(rk.icls r.1).cl,(rk.name r.1).2.1,_,(iL rl r.2 r.1).2.1,k1 _ _ _ ?_ s3 ⟨_,rfl⟩⟩;unfold oW;rw[Ja,hri]
  ·intro H3 s3 l2 hl2
   rw[rf t.ns _ (g:=λi=>V.int (oW rs i)) (λ_ _=>rfl)];refine⟨t.ns.map (oW rs),by rw[Jf];exact aW.of ac,?_⟩;exact q hno _ (((s1.trans s2).trans s3).trans (ae hl2))
theorem BJ(rs:Yaa)(t:aK):mP rs t=oW rs t.i+(t.ps.map (mP rs)).sum:=by
 cases t with
 |n0 i=>simp[mP,aK.ns,aK.i,aK.ps]
 |n1 i a=>simp[mP,aK.ns,aK.i,aK.ps]
 |n2 i a b=>simp[mP,aK.ns,aK.i,aK.ps]
noncomputable abbrev tf:Stmt:=eJ 72
inductive oJ(n:Nat)(vs:List V)(H:Hp)(Q:VK)(_E:XK):Prop
 |mk (lr:Addr) (v:V) (tl:JY) (rs:Yaa) (t:aK) (_:vs=[.ref lr,v]) (_:bV H lr tl rs) (_:bH H t.d v) (_:Fm rs t) (_:t.dep<=n) (_:∀H',az H H'->Q (.int (mP rs t)) H')
theorem uA:aE ["_law_rules","_law_tree"] ["_law_rules","_law_tree"] (ak tf):=by walk_at "c"
theorem uM{f:Addr}{fd:J0}(F:cF K "_law_sum" "_law_sum" tf f fd)(nb:NB mg)(yat:mg "sum"=none)(hm:mg "_law_sum"=some (.ref f))(hk:W.keepIn K (.ref f)=true)(hb:cI K fd ["_law_rules","_law_tree"] []):∀n,n<=60->bb P w K mg base bD (n+1) f fd ["_law_rules","_law_tree"] (oJ n)
 |0,_=>by
  refine F.ok uA (λvs H Q E h=>?_) (λcdv A outer s H vs Q E hr h=>?_)
  ·obtain⟨lr,v,tl,rs,t,rfl,_⟩:=h;rfl
  ·obtain⟨lr,v,tl,rs,t,rfl,_,_,_,h,_⟩:=h
   have:=t.dep1;omega
 |n+1,hn=>by
  have sc:=uA;have zDb:cY P w K mg base bD (n+1) "_law_sum" ["_law_rules","_law_tree"] (oJ n):=⟨f,fd,uM F nb yat hm hk hb n ⋯,hm,hk,hb⟩;walk_at "f"
  ·obtain⟨lr,v,tl,rs,t,rfl,_⟩:=h;rfl
  ·obtain⟨lr,v,tl,rs,t,rfl,hR,ht,hfm,hd,q⟩:=h
   refine⟨_,(ah (aG (aq (aZ.m0 bx) (ay aA (ay aV (am 0) (ay aA (am 1) af (λ_ _=>rfl)) (λ_ _=>rfl)) af (λ_ _=>rfl)) (au (iV rfl) rfl yat rY (aa (bO ["_law_part"] [0] rfl (bu.of (by kernel_rfl)) (by kernel_rfl) (lN (bY lU (am 1) (cv af) cw))
    (λ_ _ _ _=>(aF (i:=0) (by show(["_law_part","_law_rules"]:List Str).Nodup;decide +kernel) rfl (Or.inl rfl))) (λ_ _ _ _=>bF) (λ_ _ _ _=>(aO zDb (hr.mono ⋯) rfl ba (aa (am 1) (aa (am 0) ad))))) ad))))),?_⟩
   obtain⟨a,vs,rfl,hta,htr⟩:=aK.val ht;have hvl:=bE htr;have hps:=t.plen;obtain⟨i,r,hi,hri,hpar,hsub⟩:=hfm.node;have hil:i<rs.length:=(IR.mp hri).1;rw[hi]at hta;obtain⟨ti,hti⟩:∃ti,tl[i]?=some ti:=⟨_,IQ (by rw[hR.2.1];exact hil)⟩;walk_at "wp";refine⟨_,bc.of hta,_,jj _ _,_,_,rfl,aW.of hR.1,V.ref ti,aT (by rw[IV,hti];rfl),?_⟩;refine⟨ti,rfl,_,bc.of (hR.2.2 i ti r hti hri),_,Ai r,_,bc.of hta,qL _ _,λp hp=>?_⟩;rw[x_];have s1:=ae (o:=.tup vs) hp;have ep:aC H p (.tup vs) p=some (.tup vs):=ac;generalize aC H p (.tup vs)=H1 at s1 ep ⊢;refine⟨⟨_,bc.of ep⟩,?_⟩;refine uH (xs:=vs) (λj acc σ H'=>az H H'/\H' p=some (.tup vs)/\acc=((t.ps.map (mP rs)).take j).map V.int/\j<=vs.length/\∃z,σ=[z,some (V.ref lr)]) ⟨s1,ep,rfl,Jp _,_,rfl⟩ ?_ (λj acc σ H' h=>h.2.2.2.1) (λj acc σ H' h=>bc.of h.2.1) ?_ ?_
   ·rintro j acc σ H' ⟨_,_,rfl,hj,_⟩
    rw[IT,JC];exact bp ⋯
   ·rintro j x acc σ H' hx ⟨sm,hp',rfl,hj,z,rfl⟩
    obtain⟨s',hs',ht'⟩:=dG htr hx;have hlt:=(aK.lt (IW hs')).1;walk_at "wp";refine⟨lr,x,tl,rs,s',rfl,hR.up sm,ht'.up (b0.of sm) _,hsub s' (IW hs'),⋯,λH2 s2=>⟨sm.trans s2,s2 _ _ hp',?_,(IR.mp hx).1⟩⟩;rw[JD,IV,hs'];simp
   ·rintro acc σ H' ⟨sm,hp',rfl,_,_⟩
    intro l hl;rw[hvl,<- IT (f:=mP rs),JB];refine⟨_,aW.of ac,_,rfl,?_⟩;have e:r.2.c+(t.ps.map (mP rs)).sum=mP rs t:=by
     rw[BJ];unfold oW;rw[hi,Ja,hri]
    rw[e];exact q _ (sm.trans (ae hl))
noncomputable abbrev jM:Stmt:=eJ 71
def BY(K:W.Frag)(H:Hp)(e C:Addr)(y:ve):Prop:=∃d v,H e=some (xo e (.ref C) (some d))/\H d=some (.xd [("why",v)])/\fP K H v y
inductive mq(K:W.Frag)(C:Addr)(vs:List V)(H:Hp)(Q:VK)(_E:XK):Prop
 |mk (e:Addr) (y:ve) (_:vs=[.ref e]) (_:BY K H e C y) (_:∀v H',fP K H' v y->az H H'->Q v H')
theorem uT:aE ["_law_error"] ["_law_error"] (ak jM):=by walk_at "c"
theorem tO{f yai zfa zaa yaq yak yaj zda yap yaa yan yag:Addr}{fd:J0}(F:cF K "_law_why_of" "_law_why_of" jM f fd)(nb:NB mg)(ya7:mg "NoPicture"=some (.ref yai))(zwa:mg "NoFit"=some (.ref zfa))(zka:mg "NoGrammar"=some (.ref zaa))(yaH:mg "NoName"=some (.ref yaq))(ya5:mg "NoNumber"=some (.ref yak))(ya8:mg "NoRow"=some (.ref yaj))(zra:mg "NoRule"=some (.ref zda))(yaS:mg "NoText"=some (.ref yap))(yad:mg "NoTree"=some (.ref yaa))(yaT:mg "NoWord"=some (.ref yan))(yaO:mg "TooMany"=some (.ref yag))
  (xt:W.XTy K yaa) (xh:W.hasDictIn K yaa=true) (xw:aN K yaa "why") (k0:W.kitOne K (.ref yaa) (.ref yaa)=some true) (k1:W.kitOne K (.ref yaa) (.type "ValueError")=some true)
  (k2:W.kitAny K (.ref yaa) [.ref zfa,.ref zaa,.ref yaq,.ref yak,.ref yai,.ref yaj,.ref zda,.ref yap,.ref yan,.ref yag]=some false):bb P w K mg base bD 2 f fd ["_law_error"] (mq K yaa):=by
 have sc:=uT;walk_at "f"
 ·obtain⟨e,y,rfl,_⟩:=h;rfl
 ·obtain⟨e,y,rfl,⟨d,v,he,hd,hv⟩,q⟩:=h
  refine⟨_,(ag (bd (PW.pt (fU (gG (gN (au dL rfl nb.isinstance bP (aa (am 0) (aa (bI (v:=.ref _) rfl yad rfl) ad))) λ_=>rfl)) (d9 (gG (gN (au dL rfl nb.isinstance bP (aa (am 0) (aa (kJ (v:=.ty "ValueError") rfl nb.ValueError o_ rfl) ad))) λ_=>rfl)))))
   (ah (aG (aP (bg (aa (aP ad) ad)))))
   aL)
   (ag (bd (gN (au dL rfl nb.isinstance bP (aa (am 0) (aa (aP (aa (bI (v:=.ref _) rfl zwa rfl) (aa (bI (v:=.ref _) rfl zka rfl) (aa (bI (v:=.ref _) rfl yaH rfl) (aa (bI (v:=.ref _) rfl ya5 rfl) (aa (bI (v:=.ref _) rfl ya7 rfl) (aa (bI (v:=.ref _) rfl ya8 rfl) (aa (bI (v:=.ref _) rfl zra rfl) (aa (bI (v:=.ref _) rfl yaS rfl) (aa (bI (v:=.ref _) rfl yaT rfl) (aa (bI (v:=.ref _) rfl yaO rfl) ad))))))))))) ad))) λ_=>rfl)
   (ah (aG (aP (bg (aa (aP ad) ad)))))
   aL)
   (ah (aG (B4 (am 0) rfl))))),?_⟩
  walk_at "wp";have xr:EB H e yaa:=.inr ⟨d,_,he,hd⟩;refine .inr (.inl ⟨e,yaa,_,true,rfl,rfl,xr,xt,k0,true,rfl,?_⟩);rw[if_neg nofun];refine .inr (.inl ⟨e,yaa,_,true,rfl,rfl,xr,xt,k1,true,rfl,?_⟩);rw[if_neg nofun];refine⟨ai nofun,λp hp=>?_⟩;have m1:az H (aC H p (.tup [V.ref zfa,V.ref zaa,V.ref yaq,V.ref yak,V.ref yai,V.ref yaj,V.ref zda,V.ref yap,V.ref yan,V.ref yag])):=ae hp;have e1:aC H p (.tup [V.ref zfa,V.ref zaa,V.ref yaq,V.ref yak,V.ref yai,V.ref yaj,V.ref zda,V.ref yap,V.ref yan,V.ref yag]) p=some (.tup [V.ref zfa,V.ref zaa,V.ref yaq,V.ref yak,V.ref yai,V.ref yaj,V.ref zda,V.ref yap,V.ref yan,V.ref yag]):=ac;generalize aC H p (.tup [V.ref zfa,V.ref zaa,V.ref yaq,V.ref yak,V.ref yai,V.ref yaj,V.ref zda,V.ref yap,V.ref yan,V.ref yag])=H1 at m1 e1 ⊢;have he1:=m1 _ _ he;have hd1:=m1 _ _ hd;refine .inr (.inr ⟨e,yaa,p,_,false,rfl,e1,by simp[iz],.inr ⟨d,_,he1,hd1⟩,xt,k2,false,rfl,?_⟩);rw[if_neg nofun];exact⟨yaa,d,he1,_,hd1,v,rfl,xt,xh,xw,q _ _ (hv.up m1) m1⟩
noncomputable abbrev kT:Stmt:=eJ 73
inductive o7(K:W.Frag)(R:RC)(CG CF:Addr)(vs:List V)(H:Hp)(Q:VK)(E:XK):Prop
 |mk (g:Addr) (v:V) (rs:Yaa) (t:aK) (wh:Int) (_:vs=[.ref g,v,.int wh]) (_:ip R CG H g v rs t) (_:t.cnt<=1000) (_:(b9 rs t=none->(wh=0->∀p,cq rs t []=.inr p->bS H p Q)/\(wh≠0->∀H',az H H'->Q (.int (mP rs t)) H'))) (_:∀y,b9 rs t=some y->gP K CF H E y)
theorem u9:aE ["_law_grammar_here","_law_tree","_law_which"] ["_law_grammar_here","_law_tree","_law_which"] (ak kT):=by walk_at "c"
theorem uZ{R:RC}{f CG CF:Addr}{fd:J0}(F:cF K "_law_asked" "_law_asked" kT f fd)(nb:NB mg)(yaw:cY P w K mg base (vK P w) 66 "laid" ["grammar","tree"] (sj K R CG CF))(yaX:cY P w K mg base (vK P w) 67 "cost_of" ["grammar","tree"] (oY K R CG CF)):bb P w K mg base (vK P w) 68 f fd ["_law_grammar_here","_law_tree","_law_which"] (o7 K R CG CF):=by
 have sc:=u9;walk_at "y"
 ·obtain⟨g,v,rs,t,wh,rfl,_⟩:=h;rfl
 ·obtain⟨g,v,rs,t,wh,rfl,hL,hc,q,bad⟩:=h
  refine⟨_,(ag (bd (aB cz (am 2) af (aI _))
   (ah (aG (aO (E:=E) yaw (hr.mono nofun) rfl (dI λ_ _ _ h=>h) (aa (am 0) (aa (am 1) ad)))))
   aL)
   (ah (aG (aO (E:=E) yaX (hr.mono nofun) rfl (dI λ_ _ _ h=>h) (aa (am 0) (aa (am 1) ad)))))),?_⟩
  walk_at "wp";refine br (λh0=>⟨g,v,rs,t,rfl,hL,λhno p hp=>(q hno).1 h0 p hp,bad⟩) λh0=>⟨g,v,rs,t,rfl,hL,hc,λhno=>(q hno).2 h0,bad⟩
noncomputable abbrev ng:Stmt:=eJ 74
inductive pR(K:W.Frag)(R:RC)(CG:Addr)(vs:List V)(H:Hp)(Q:VK)(_E:XK):Prop
 |mk (g lr:Addr) (v du:V) (tl:JY) (rs:Yaa) (t:aK) (wh:Int) (_:vs=[.ref g,.ref lr,v,.int wh,du]) (_:ip R CG H g v rs t) (_:bV H lr tl rs) (_:t.cnt<=1000) (_:((b9 rs t=none/\du=.non)\/∃y,b9 rs t=some y/\fP K H du y)) (_:∀H',az H H'->Q (.bl true) H')
theorem yC:aE ["_law_grammar_here","_law_rules","_law_tree","_law_which","_law_due","_law_found","_law_error","e"] ["_law_grammar_here","_law_rules","_law_tree","_law_which","_law_due"] (ak ng):=by walk_at "c"
theorem xS{R:RC}{f CG yac yaa:Addr}{fd:J0}{bmD bmT:JX}{nD nT:String}(F:cF K "_law_told" "_law_told" ng f fd)(nb:NB mg)
  (ya1:mg "QuiltError"=some (.ref yac)) (yaP:nc K yac bmD nD) (hbase:bmD.contains (.type "BaseException")=true) (yaB:lG K yaa bmT nT) (un1:mh K yaa yac)
  (zMc:cY P w K mg base (vK P w) 68 "_law_asked" ["_law_grammar_here","_law_tree","_law_which"] (o7 K R CG yaa)) (zbc:cY P w K mg base bD 2 "_law_why_of" ["_law_error"] (mq K yaa)) (zjb:cY P w K mg base bD 2 "_law_fault_is" ["_law_found","_law_due"] (jh K)) (zJa:cY P w K mg base bD 1 "_law_whole" ["_law_found"] jr) (zIa:cY P w K mg base bD 64 "_law_lay" ["_law_rules","_law_tree","_law_place"] (kh K 60)) (zDb:cY P w K mg base bD 61 "_law_sum" ["_law_rules","_law_tree"] (oJ 60)):bb P w K mg base bD 69 f fd ["_law_grammar_here","_law_rules","_law_tree","_law_which","_law_due"] (pR K R CG):=by
 have sc:=yC;walk_at "f"
 ·obtain⟨g,lr,v,du,tl,rs,t,wh,rfl,_⟩:=h;rfl
 ·obtain⟨g,lr,v,du,tl,rs,t,wh,rfl,hL,hR,hc,hdu,q⟩:=h
  have hu:=hr.units;refine⟨_,(ag (aM (i:=5) sc.nd rfl (Or.inl rfl) bU)
   (ag (aM (i:=6) sc.nd rfl (Or.inl rfl) bU)
   (ag (wo (i:=7) sc.nd rfl rfl (D7 zMc (hr.mono nofun) rfl (aa (am 0) (aa (am 2) (aa (am 3) ad)))) (aF (i:=5) sc.nd rfl (Or.inl rfl)) rfl rfl rfl ya1 yaP hbase (λea=>(ah (aM (i:=6) sc.nd rfl (Or.inl rfl) (am 7)))))
   (ag (bd (aB gy (am 4) bU (aI _))
   (ah (aG (gi (dS gy (am 6) bU (aI _)) (jE (aO zjb (hr.mono nofun) rfl ba (aa (aO zbc (hr.mono nofun) rfl ba (aa (am 6) ad)) (aa (am 4) ad)))))))
   aL)
   (ag (bd (aB cz (am 3) af (aI _))
   (ah (aG (gi (dS ol (am 6) bU (aI _)) (jE (dS (vV hu) (am 5) (ay aA (aO zIa (hr.mono nofun) rfl ba (aa (am 1) (aa (am 2) (aa (aP ad) ad)))) af (λ_ _=>rfl)) (aI _))))))
   aL)
   (ah (aG (gi (dS ol (am 6) bU (aI _)) (gi (aO zJa (hr.mono nofun) rfl ba (aa (am 5) ad)) (jE (dS cz (am 5) (aO zDb (hr.mono nofun) rfl ba (aa (am 1) (aa (am 2) ad))) (aI _)))))))))))),?_⟩
  obtain⟨dx,sg,st,as,hG,hgd,h24,ht,hd⟩:=id hL;walk_at "n";refine h1 _ _ ?_;walk_at "nc";refine h1 _ _ ?_;walk_at "nc";refine⟨g,v,rs,t,wh,rfl,hL,hc,λhno=>?_,λy hy tp p d H' sm hxd htp hpp=>⟨yaa,rfl,_,_,yaB,un1,λea hea=>h1 _ _ ?_⟩⟩
  ·have hdn:du=.non:=by
    rcases hdu with⟨_,h⟩ | ⟨y,h,_⟩
    ·exact h
    ·rw[hno]at h;cases h
   subst hdn;refine⟨λh0 p hp l H1 hl0 hl s1=>h1 _ _ ?_,λh0 H1 s1=>h1 _ _ ?_⟩
   ·clear h1
    subst h0;walk_at "wp";rw[if_neg (λh=>h trivial)];refine⟨Jp _,λp1 hp1=>?_⟩;have s2:=s1.trans (ae (o:=.tup []) hp1);refine⟨lr,v,p1,tl,rs,t,[],rfl,hR.up s2,hgd,ht.up (b0.of s2) _,ni hno,hd,bc.of ac,by simp,λp' hp' tp l' H3 htp hl' s3=>⟨tp,rfl,_,bc.of htp,V.ref l',rfl,?_⟩,λy hy=>by rw[hp]at hy;cases hy⟩;rw[hp]at hp';cases hp';exact xP (aW.of (s3 _ _ (ae hp1 _ _ hl))) (aW.of hl') (q H3 (s2.trans s3))
   ·clear h1
    walk_at "wp";rw[if_neg (λh=>h trivial),if_neg h0];refine⟨_,rfl,true,rfl,?_⟩;rw[if_pos rfl];refine⟨lr,v,tl,rs,t,rfl,hR.up s1,ht.up (b0.of s1) _,ni hno,hd,λH2 s2=>⟨rfl,?_⟩⟩;rw[decide_eq_true rfl];exact q H2 (s1.trans s2)
  ·clear h1
   have s2:=ae (o:=xo ea (.ref yaa) (some d)) hea;have e2:aC H' ea (xo ea (.ref yaa) (some d)) ea=some (xo ea (.ref yaa) (some d)):=ac;generalize aC H' ea (xo ea (.ref yaa) (some d))=H2 at s2 e2 ⊢;walk_at "wp";rcases hdu with⟨h,_⟩ | ⟨y',hy',hdu⟩
   ·rw[h]at hy;cases hy
   rw[hy]at hy';cases hy';have hyl:=xy hy;have hs2:=sm.trans s2;obtain⟨dt,dp,rfl,hdu1,hdu2⟩:=id hdu;rw[if_pos (λe=>by cases e),if_pos (λh=>h)];exact⟨ea,y,rfl,⟨d,_,e2,s2 _ _ hxd,tp,p,rfl,s2 _ _ htp,s2.sqT hpp⟩,λv' H3 hv' s3=>⟨_,_,rfl,.inr ⟨y,hv',hdu.up (hs2.trans s3),⋯⟩,λH4 s4=>q H4 ((hs2.trans s3).trans s4)⟩⟩
noncomputable abbrev qH:Stmt:=eJ 75
inductive sS(K:W.Frag)(vs:List V)(H:Hp)(Q:VK)(_E:XK):Prop
 |mk (a:Addr) (ns:List Int) (_:vs=[.ref a]) (_:aW K H a (ns.map V.int)) (_:∀H',Q (.bl true) H')
theorem Eg:aE ["_law_script","_law_rules","_law_stock","_law_grammar_here","_law_tree","_law_k","_law_due","_law_first","_law_which"] ["_law_script"] (ak qH):=by walk_at "c"
theorem Dq{R:RC}{f CG:Addr}{fd:J0}(F:cF K "law" "law" qH f fd)(nb:NB mg)(zla:cY P w K mg base bD 1 "_law_cell" ["_law_script","_law_k"] (lP K))(zNc:cY P w K mg base bD 8 "_law_drawn" ["_law_script","_law_most","_law_steps"] (nW K R CG))(zcc:cY P w K mg base bD 63 "_law_spoilt" ["_law_tree","_law_cell_here","_law_rules","_law_stock"] (ma K))(zOc:cY P w K mg base bD 65 "_law_fault" ["_law_rules","_law_tree"] (nj K))(zxd:cY P w K mg base bD 69 "_law_told" ["_law_grammar_here","_law_rules","_law_tree","_law_which","_law_due"] (pR K R CG)):bb P w K mg base bD 70 f fd ["_law_script"] (sS K):=by
 have sc:=Eg;walk_at "f"
 ·obtain⟨a,ns,rfl,_⟩:=h;rfl
 ·obtain⟨a,ns,rfl,ha,q⟩:=h
  refine⟨_,(ag (iD (aO zNc (hr.mono nofun) rfl ba (aa (am 0) (bB (bB ad)))) (eF (n:=3) rfl (a_ (aF (i:=1) sc.nd rfl (Or.inl rfl)) (a_ (aF (i:=2) sc.nd rfl (Or.inl rfl)) (a_ (aF (i:=3) sc.nd rfl (Or.inl rfl)) cM)))))
   (ag (aM (i:=4) sc.nd rfl (Or.inl rfl) (ay aA (ay aV (am 2) (aq (aZ.m1 aX) (aO zla (hr.mono nofun) rfl ba (aa (am 0) (bB ad))) (au aQ rfl nb.len aR (aa (am 2) ad))) (λ_ _=>rfl)) af (λ_ _=>rfl)))
   (ag (bK PassesOwn.never rfl (bW rfl nb.range (aa (aq (aZ.m0 bx) af (aq (aZ.m1 aX) (aO zla (hr.mono nofun) rfl ba (aa (am 0) (bB ad))) af)) ad)) (aF (i:=5) sc.nd rfl (Or.inl rfl))
   (ah (aM (i:=4) sc.nd rfl (Or.inl rfl) (aO zcc (hr.mono nofun) rfl ba (aa (am 4) (aa (aO zla (hr.mono nofun) rfl ba (aa (am 0) (aa (aq (aZ.m0 bx) af (am 5)) ad))) (aa (am 1) (aa (am 2) ad))))))))
   (ag (aM (i:=6) sc.nd rfl (Or.inl rfl) (aO zOc (hr.mono nofun) rfl ba (aa (am 1) (aa (am 4) ad))))
   (ag (aM (i:=7) sc.nd rfl (Or.inl rfl) (aq (aZ.m1 aX) (aq (aZ.m1 bi) (aO zla (hr.mono nofun) rfl ba (aa (am 0) (bB ad))) af) af))
   (ag (bK PassesOwn.never rfl (lN (aP (aa (am 7) (aa (aq (aZ.m0 fJ) af (am 7)) (aa (am 7) ad))))) (aF (i:=8) sc.nd rfl (Or.inl rfl))
   (ah (bd (gG (gN (aO zxd (hr.mono nofun) rfl ba (aa (am 3) (aa (am 1) (aa (am 4) (aa (am 8) (aa (am 6) ad)))))) λ_=>rfl))
   (ah (aG zI))
   aL)))
   (ah (aG zI)))))))),?_⟩
  walk_at "n";refine⟨a,ns,36,16,rfl,ha,nofun,nofun,nofun,λtp lr ls gr gd ga ts rs p sg st as xs H1 htp hR hro h24 hp hpn hsg hp0 hst hin yab hx0 hxl hG s1=>⟨tp,rfl,_,bc.of htp,rfl,_,_,rfl,_,_,rfl,_,_,rfl,rfl,h1 _ _ ?_⟩⟩;clear h1;have hgd:∀r∈rs,iw r:=λr hr=>(hro r hr).good;obtain⟨trs,htrs,htrs2⟩:=o5 yab;have stk:uO H1 ls as xs trs:=⟨hst,hin,hx0,hxl,htrs⟩;have hxp:0<xs.length:=by cases xs with | nil=>exact absurd rfl hx0 | cons=>simp
  walk_at "n";refine⟨a,ns,3,rfl,s1.seq ha,⋯,λc3=>?_⟩;obtain⟨jx,hjx,ejx⟩:=lS c3 hxp;obtain⟨ax,x,hax,hxx,vt,lp,hA,htx,_⟩:=hin.got hjx;obtain⟨t,hxd,htd,htc,htF⟩:=qa (yab x (IW hxx));rw[hxd]at htx;refine⟨_,aW.of hst,c3,rfl,by rw[IT,hin.1];omega,_,aW.of hst,V.ref ax,?_,ax,rfl,_,bc.of hA,vt,rfl,h1 _ _ ?_⟩
  ·rw[IT,hin.1,ejx]
   exact aT (by rw[IV,hax];rfl)
  walk_at "nc";refine⟨a,ns,4,rfl,s1.seq ha,⋯,λc4=>⟨c4,rfl,?_⟩⟩;obtain⟨j4,hj4,ej4⟩:=lS c4 (n:=2) nofun;have ej4':c4%2=(j4:Int):=ej4;rw[ej4',show(1+(j4:Int))=((j4+1:Nat):Int) by omega,Ja];refine⟨⋯,⋯,?_⟩;refine dJ (lo:=0) (n:=j4+1) (λi σ H'=>az H1 H'/\(∃(u:V) (t':aK) (z:Option V),bH H' t'.d u/\t'.cnt<=1000/\t'.dep<=60/\(i=0->t'.cnt<=60/\t'.dep<=18)/\(i=1->t'.cnt<=180/\t'.dep<=36)/\σ=[some (V.ref a),some (V.ref lr),some (V.ref ls),some (V.ref gr),some u,z,none,none,none])) ⟨az.refl _,vt,t,_,htx,⋯,⋯,λ_=>⟨htc,htd⟩,λh=>absurd h nofun,rfl⟩ ?_ ?_
  ·rintro i σ H' hi ⟨sm,u,t',z,hu,hc,hd,hi0,hi1,rfl⟩
   walk_at "wp";have s0m:=s1.trans sm;refine⟨a,ns,5+i,by simp,s0m.seq ha,⋯,λc=>?_⟩;refine⟨u,c,lr,ls,t',ts.map V.ref,as,xs,trs,rfl,hu,hc,hd,(hR.up sm).1,?_,by rw[IT,hR.2.1];omega,stk.up sm,λt2 u2 H2 hsp hu2 s2=>⟨sm.trans s2,u2,t2,hu2,?_⟩⟩
   ·intro e
    have hg:=yab x (IW hxx);have:=hg.gr.pos;have h2:=hR.2.1;rw[List.map_eq_nil_iff]at e;rw[e]at h2;simp at h2;omega
   have i2:i=0\/i=1:=by omega
   rcases i2 with rfl | rfl
   ·obtain⟨b1,b2⟩:=hi0 rfl
    obtain⟨b3,b4⟩:=hsp.size htrs2 b1 b2;exact⟨⋯,⋯,λh=>h.elim,λ_=>⟨⋯,⋯⟩,rfl⟩
   ·obtain⟨b1,b2⟩:=hi1 rfl
    obtain⟨b3,b4⟩:=hsp.size htrs2 b1 b2;exact⟨⋯,⋯,λh=>h.elim,λh=>absurd h nofun,rfl⟩
  rintro σ H2 ⟨s2,u,t',z,hu,hc,hd,_,_,rfl⟩;refine h1 _ _ ?_;walk_at "nc";have s02:=s1.trans s2;have hR2:=hR.up s2;have hL:∀H',az H2 H'->ip R CG H' gr u rs t':=λH' s=>⟨gd,sg,st,ga,hG.up (s2.trans s),hgd,h24,hu.up (b0.of s) _,hd⟩
  suffices go:∀du H3,az H2 H3->((b9 rs t'=none/\du=.non)\/∃y,b9 rs t'=some y/\fP K H3 du y)->N1 [some (V.ref a),some (V.ref lr),some (V.ref ls),some (V.ref gr),some u,z,some du,none,none] H3 by
   exact⟨lr,u,ts,rs,t',rfl,hR2,hgd,h24,hu,hd,hc,λhno H3 s3=>go _ H3 s3 (.inl ⟨hno,rfl⟩),λy hy v H3 hv s3=>go _ H3 s3 (.inr ⟨y,hy,hv⟩)⟩
  intro du H3 s3 hdu;refine h1 _ _ ?_;walk_at "nc";have s03:=s02.trans s3;refine⟨a,ns,4,rfl,s03.seq ha,⋯,λc5=>?_⟩;walk_at "wp";refine h1 _ _ ?_;walk_at "nc";refine⟨ai nofun,λp3 hp3=>?_⟩;have s4:=ae (o:=.tup [V.int (c5/2%2),V.int (1-c5/2%2),V.int (c5/2%2)]) hp3;have e4:aC H3 p3 (.tup [V.int (c5/2%2),V.int (1-c5/2%2),V.int (c5/2%2)]) p3=some (.tup ([c5/2%2,1-c5/2%2,c5/2%2].map V.int)):=ac;generalize aC H3 p3 (.tup [V.int (c5/2%2),V.int (1-c5/2%2),V.int (c5/2%2)])=H4 at s4 e4 ⊢;refine⟨⟨_,bc.of e4⟩,?_⟩;refine jS (xs:=[c5/2%2,1-c5/2%2,c5/2%2].map V.int) (λj σ H'=>az H4 H'/\∃z',σ=[some (V.ref a),some (V.ref lr),some (V.ref ls),some (V.ref gr),some u,z,some du,some (V.int (c5/2%2)),z']) ⟨az.refl _,_,rfl⟩ ?_ ?_ ?_
  ·rintro j σ H' _ ⟨sm,_⟩
   exact bc.of (sm _ _ e4)
  ·rintro j x σ H' hx ⟨sm,z',rfl⟩
   rw[IV]at hx;obtain⟨wh,_,rfl⟩:=Js.mp hx;have s3m:=s4.trans sm;walk_at "wp";refine⟨gr,lr,u,du,ts,rs,t',wh,rfl,hL H' (s3.trans s3m),hR2.up (s3.trans s3m),hc,?_,λH5 s5=>⟨true,rfl,?_⟩⟩
   ·rcases hdu with h | ⟨y,hy,hv⟩
    ·exact .inl h
    ·exact .inr ⟨y,hy,hv.up s3m⟩
   ·rw[if_neg nofun]
    exact sm.trans s5
  ·rintro σ H' ⟨sm,z',rfl⟩
   refine h1 _ _ ?_;walk_at "wp";exact q H'
end
theorem bd1{P:List Value->Prop}(h:∀a,P [a]):∀us:List Value,us.length=1->P us:=λus e=>match us,e with|[_],_=>h _
theorem bd2{P:List Value->Prop}(h:∀a b,P [a,b]):∀us:List Value,us.length=2->P us:=λus e=>match us,e with|[_,_],_=>h _ _
theorem bd3{P:List Value->Prop}(h:∀a b c,P [a,b,c]):∀us:List Value,us.length=3->P us:=λus e=>match us,e with|[_,_,_],_=>h _ _ _
theorem bd4{P:List Value->Prop}(h:∀a b c d,P [a,b,c,d]):∀us:List Value,us.length=4->P us:=λus e=>match us,e with|[_,_,_,_],_=>h _ _ _ _
theorem bd5{P:List Value->Prop}(h:∀a b c d e,P [a,b,c,d,e]):∀us:List Value,us.length=5->P us:=λus e=>match us,e with|[_,_,_,_,_],_=>h _ _ _ _ _
def FK(K:W.Frag)(x:Str)(st:Stmt)(f:Addr):Prop:=W.nsIn K mainGlobals x=some (some (.ref f))/\∃oc od osl kV doc pm an cdv ct,K.lookup f=some ⟨oc,od,.func (W.fnOf x x (bz st) (bj st) (ak st) .none kV doc pm an cdv ct),osl⟩/\W.codeIn K cdv x=true/\W.keepIn K (.ref f)=true
theorem fk_mk{K:W.Frag}{x:Str}{st:Stmt}{f:Addr}{oc:Value}{od an:Ka}{osl:Array (Option Value)}{kV doc pm cdv ct:Value}(a:W.nsIn K mainGlobals x=some (some (.ref f)))(l:K.lookup f=some ⟨oc,od,.func (W.fnOf x x (bz st) (bj st) (ak st) .none kV doc pm an cdv ct),osl⟩)(c:W.codeIn K cdv x=true)(k:W.keepIn K (.ref f)=true):FK K x st f:=⟨a,oc,od,osl,kV,doc,pm,an,cdv,ct,l,c,k⟩
theorem FK.cal{K:W.Frag}{x:Str}{st:Stmt}{f:Addr}{h base:Heap}{mg:JZ}{P:J3}{w:J9}{CX:ia}{k:Nat}{ps:J4}{sp:Sp}(q:FK K x st f)(X:K.In h)(G:h.Ns mainGlobals mg)
  (ok:∀fd,cF K x x st f fd->mg x=some (.ref f)->W.keepIn K (.ref f)=true->cI K fd ps []->bb P w K mg base CX k f fd ps sp)
  (hb:∀(kV doc pm:Value) (an:Ka) (cdv ct:Value) (us:JX),us.length=ps.length->bindArgs (W.fnOf x x (bz st) (bj st) (ak st) .none kV doc pm an cdv ct) ⟨us,[]⟩=pure (ps.zip us)):cY P w K mg base CX k x ps sp:=by
 obtain⟨a,oc,od,osl,kV,doc,pm,an,cdv,ct,l,c,kk⟩:=q;have F:=cG l c kk;have b:=F.binds hb;exact⟨_,_,ok _ F (W.mg_of X G a) kk b,W.mg_of X G a,kk,b⟩
theorem all_mk{l:W.OpenLaw}{w:J9}{K:W.Frag}{h:Heap}{mg:JZ}{fa f1 f2 f3 f4 f5 f6 f7 f8 f9 f10 f11 f12 f13 f14 f15 f16 f17 f18 f19 f20 f21 f22 f23 f24 f25 f26 f27 f28 f29 f30 f31 f32 f33 f34 f35 f36 f37 f38 f39 f40 f41 f42 f43:Addr}(X:K.In h)(G:h.Ns mainGlobals mg)(Gu:mg "law"=some (.ref fa))
  (a1:FK K "only_of" lD f1) (a2:FK K "is_name" kW f2) (a3:FK K "are_signs" iF f3) (a4:FK K "check_made_of" d_ f4) (a5:FK K "numbers_by_name" dB f5) (a6:FK K "beside" ot f6) (a7:FK K "above" tD f7) (a8:FK K "mirror" og f8) (a9:FK K "column_from_below" cV f9) (FR:FK K "quarter" lL f10) (Fa:FK K "turned" oI f11) (GE:FK K "check_form" gH f12) (Hn:FK K "lay" zl f13) (GX:FK K "laid" vw f14) (HM:FK K "numbers_in" gB f15) (HQ:FK K "cost_of" li f16) (Hs:FK K "_law_cell" oZ f17) (G8:FK K "_law_signs" kS f18) (HK:FK K "_law_names" lh f19) (HR:FK K "_law_quarter" ib f20) (GR:FK K "_law_turned" jv f21) (Hg:FK K "_law_put" rn f22) (GO:FK K "_law_rule_made" m_ f23) (Iw:FK K "_law_drawn_rule" fj f24) (GZ:FK K "_law_next" nX f25) (Iv:FK K "_law_number" jy f26) (HY:FK K "_law_grown" kU f27) (HN:FK K "_law_grammar" io f28) (HS:FK K "_law_drawn" k_ f29) (Iq:FK K "_law_whole" lA f30) (Gj:FK K "_law_places" jt f31) (IK:FK K "_law_at" wA f32) (GU:FK K "_law_with" m7 f33) (GH:FK K "_law_spoilt" jo f34) (Gc:FK K "_law_parts" kZ f35) (Hw:FK K "_law_lay" qM f36) (GW:FK K "_law_fault" k8 f37) (Hb:FK K "_law_fault_is" gM f38) (II:FK K "_law_why_of" jM f39) (Gx:FK K "_law_sum" tf f40) (Gy:FK K "_law_asked" kT f41) (H_:FK K "_law_told" ng f42) (Iy:FK K "law" qH f43)
  {yac zda zfa zaa zHa yaa yay yaf zza zga zpa zba zma zca zoa zea zqa zja zAa zta zya zBa zha zsa zCa zDa yaq yak yai yaj yap yan yag:Addr} {ybV ybU ybj ybo ybR ybv ybm:Tok} {ybk ybI ybY ybz ybq ybF ybD ybO ybC zMd zNd znc zoc zEb zFb zdc zec zpc zqc zWe zXe zOd zPd zed zfd zyd zzd zQd zRd zPc zQc zze zAe zBe zCe:Ka} {ybr zXf zyf zva yam:ClassData} {ybP zYf zag znf ybn ybT ybE zSd zrc zGb zfc zsc zYe zTd zgd zAd zUd zRc zDe zEe:Array (Option Value)} {ybQ ybt ybs ybG yba ybx ybW ybB ybX ybw ybc ybK zVd zWd zXd zYd zpb zZd ztc zuc zvc zwc zQa zxc zHb zIb zJb zKb zKa zLb zgc zhc zic zjc zMa zkc zyc zzc zAc zBc zRa zCc zZe zaf zbf zcf zSc zdf zae zbe zce zde zqb zee zhd zid zjd zkd zcb zld zBd zCd zDd zEd zkb zFd zfe zge zhe zie zrb zje zTc zUc zVc zWc zXa zXc zFe zGe zHe zIe zMb zJe zKe zLe zMe zNe zNb zOe:Value}  (uJ:W.nsIn K mainGlobals "QuiltError"=some (some (.ref yac))) (qX:K.lookup yac=some ⟨.type "type",ybk,.cls ybr,ybP⟩) (kt:W.excIn K yac [.type "ValueError",.type "Exception",.type "BaseException",.type "object"] "ValueError.__new__"=true) (pE:W.findIn K (.ref yac) "__getattribute__"=some (some (.builtin "BaseException.__getattribute__"))) (pj:W.findIn K (.ref yac) "__getattr__"=some none) (py:W.mroIn K yac (.type "BaseException")=some true) (pf:W.mroIn K yac (.type "object")=some true) (pK:W.findIn K (.ref yac) "__class__"=some (some (.builtin "object.__class__"))) (BG:W.specialIn K (.builtin "object.__class__") "__get__"=some (some (.builtin "getset_descriptor.__get__"))) (BI:W.takesIn K (.builtin "object.__class__")=some true) (B7:W.nsIn K mainGlobals "NoRule"=some (some (.ref zda))) (AJ:K.lookup zda=some ⟨.type "type",ybI,.cls zXf,zYf⟩) (tX:W.excIn K zda [.type "ValueError",.type "Exception",.type "BaseException",.type "object"] "ValueError.__new__"=true) (yv:W.findIn K (.ref zda) "__getattribute__"=some (some (.builtin "BaseException.__getattribute__"))) (yw:W.findIn K (.ref zda) "__getattr__"=some none) (xU:W.mroIn K zda (.type "BaseException")=some true) (yP:W.mroIn K zda (.type "object")=some true) (xR:W.findIn K (.ref zda) "__class__"=some (some (.builtin "object.__class__"))) (DG:W.nsIn K mainGlobals "NoFit"=some (some (.ref zfa))) (xx:K.lookup zfa=some ⟨.type "type",ybY,.cls zyf,zag⟩) (wU:W.excIn K zfa [.type "ValueError",.type "Exception",.type "BaseException",.type "object"] "ValueError.__new__"=true) (Ax:W.findIn K (.ref zfa) "__getattribute__"=some (some (.builtin "BaseException.__getattribute__"))) (AU:W.findIn K (.ref zfa) "__getattr__"=some none) (AF:W.mroIn K zfa (.type "BaseException")=some true) (zZ:W.mroIn K zfa (.type "object")=some true) (AB:W.findIn K (.ref zfa) "__class__"=some (some (.builtin "object.__class__"))) (Io:zyf.mro.contains (.ref zfa)=true) (vh:W.nsIn K mainGlobals "NoGrammar"=some (some (.ref zaa))) (ik:K.lookup zaa=some ⟨.type "type",ybz,.cls zva,znf⟩) (rN:W.excOut K zaa [.type "ValueError",.type "Exception",.type "BaseException",.type "object"] "ValueError.__new__"=true) (qQ:W.findIn K (.ref zaa) "__getattribute__"=some (some (.builtin "BaseException.__getattribute__"))) (sw:W.findIn K (.ref zaa) "__getattr__"=some none) (tj:W.mroIn K zaa (.type "BaseException")=some true) (rD:W.mroIn K zaa (.type "object")=some true) (sN:W.findIn K (.ref zaa) "__class__"=some (some (.builtin "object.__class__"))) (sf:W.findIn K (.ref zaa) "__init__"=some (some (.ref zHa))) (sr:W.typeIn K (.ref zHa)=some (.type "function")) (sK:K.lookup zHa=some ⟨ybQ,ybq,.func (W.fnOf "__init__" "NoGrammar.__init__" (bz iQ) (bj iQ) (ak iQ) .none ybt ybs ybG ybF yba ybx),ybn⟩) (rQ:W.codeIn K yba "NoGrammar.__init__"=true) (rh:W.keepIn K (.ref zHa)=true) (sM:W.findIn K (.ref zaa) "__setattr__"=some (some (.builtin "object.__setattr__"))) (sW:W.strip zva.mro=[.type "ValueError",.type "Exception",.type "BaseException",.type "object"]) (kL:zva.hasDict=true) (q_:zva.mro.contains (.type "object")=true) (qP:zva.mro.isEmpty=false) (tz:W.findIn K (.ref zaa) "why"=some none) (Ht:zva.mro.contains (.ref zaa)=true) (Cr:W.nsIn K mainGlobals "NoTree"=some (some (.ref yaa))) (kF:K.lookup yaa=some ⟨.type "type",ybD,.cls yam,ybT⟩) (xB:W.excOut K yaa [.type "ValueError",.type "Exception",.type "BaseException",.type "object"] "ValueError.__new__"=true) (za:W.findIn K (.ref yaa) "__getattribute__"=some (some (.builtin "BaseException.__getattribute__"))) (yy:W.findIn K (.ref yaa) "__getattr__"=some none) (yD:W.mroIn K yaa (.type "BaseException")=some true) (y8:W.mroIn K yaa (.type "object")=some true) (yM:W.findIn K (.ref yaa) "__class__"=some (some (.builtin "object.__class__"))) (qp:W.findIn K (.ref yaa) "__init__"=some (some (.ref yay))) (qK:W.typeIn K (.ref yay)=some (.type "function")) (x9:K.lookup yay=some ⟨ybW,ybO,.func (W.fnOf "__init__" "NoTree.__init__" (bz gC) (bj gC) (ak gC) .none ybB ybX ybw ybC ybc ybK),ybE⟩) (xY:W.codeIn K ybc "NoTree.__init__"=true) (xT:W.keepIn K (.ref yay)=true) (yW:W.findIn K (.ref yaa) "__setattr__"=some (some (.builtin "object.__setattr__"))) (yQ:W.strip yam.mro=[.type "ValueError",.type "Exception",.type "BaseException",.type "object"]) (qG:yam.hasDict=true) (xI:yam.mro.contains (.type "object")=true) (yo:yam.mro.isEmpty=false) (pS:W.findIn K (.ref yaa) "why"=some none) (mz:yam.mro.contains (.ref yaa)=true) (xV:W.nsIn K mainGlobals "CAPITALS"=some (some (.str "ABCDEFGHIJKLMNOPQRSTUVWXYZ" ybV))) (Cs:W.nsIn K mainGlobals "SMALLS"=some (some (.str "abcdefghijklmnopqrstuvwxyz" ybU))) (pz:W.nsIn K mainGlobals "LONGEST_NAME"=some (some (.int 4 ybj))) (EC:W.nsIn K mainGlobals "Rule"=some (some (.ref yaf))) (DJ:W.specialIn K (.ref yaf) "__getattribute__"=some (some (.builtin "type.__getattribute__"))) (Dr:W.readsIn K yaf (.type "type")=true) (mD:W.findCls K (.ref yaf) (.type "type") "__init__"=some (.val (.ref zza))) (mM:K.lookup zza=some ⟨zVd,zMd,.func (W.fnOf "__init__" "Rule.__init__" (bz df) (bj df) (ak df) .none zWd zXd zYd zNd zpb zZd),zSd⟩) (my:W.codeIn K zpb "Rule.__init__"=true) (F6:W.keepIn K (.ref zza)=true) (zf:W.isFn K (.ref zza)=true) (y_:W.nsIn K mainGlobals "CellRule"=some (some (.ref zga))) (HP:W.plainGet K zga Str.empty=true) (Hf:W.hasDictIn K zga=true) (HX:W.plainOver K zga=true) (G7:W.findIn K (.ref zga) "__setattr__"=some (some (.builtin "object.__setattr__"))) (GY:W.findIn K (.ref zga) "__class__"=some (some (.builtin "object.__class__"))) (Hr:W.mroIn K zga (.type "object")=some true) (GC:W.findIn K (.ref zga) "name"=some none) (GJ:W.findIn K (.ref zga) "cost"=some none) (GD:W.findIn K (.ref zga) "part_names"=some none) (Ii:W.findIn K (.ref zga) "sign"=some none) (vP:W.makesIn K zga=true) (vo:W.findIn K (.ref zga) "__init__"=some (some (.ref zpa))) (iX:K.lookup zpa=some ⟨ztc,znc,.func (W.fnOf "__init__" "CellRule.__init__" (bz dk) (bj dk) (ak dk) .none zuc zvc zwc zoc zQa zxc),zrc⟩) (i5:W.codeIn K zQa "CellRule.__init__"=true) (HF:W.keepIn K (.ref zpa)=true) (i_:W.isFn K (.ref zpa)=true) (vB:W.keepIn K (.ref zga)=true) (HH:W.kitOne K (.ref zga) (.ref yaf)=some true) (F2:W.kitOne K (.ref zga) (.ref zga)=some true) (ut:W.nsIn K mainGlobals "BesideRule"=some (some (.ref zba))) (Ib:W.plainGet K zba Str.empty=true) (He:W.hasDictIn K zba=true) (GV:W.plainOver K zba=true) (HE:W.findIn K (.ref zba) "__setattr__"=some (some (.builtin "object.__setattr__"))) (Ga:W.findIn K (.ref zba) "__class__"=some (some (.builtin "object.__class__"))) (IE:W.mroIn K zba (.type "object")=some true) (HJ:W.findIn K (.ref zba) "name"=some none) (HU:W.findIn K (.ref zba) "cost"=some none) (Hd:W.findIn K (.ref zba) "part_names"=some none) (Gn:W.findIn K (.ref zba) "one"=some none) (Hk:W.findIn K (.ref zba) "other"=some none) (sZ:W.makesIn K zba=true) (qU:W.findIn K (.ref zba) "__init__"=some (some (.ref zma))) (gZ:K.lookup zma=some ⟨zHb,zEb,.func (W.fnOf "__init__" "BesideRule.__init__" (bz cj) (bj cj) (ak cj) .none zIb zJb zKb zFb zKa zLb),zGb⟩) (g9:W.codeIn K zKa "BesideRule.__init__"=true) (G0:W.keepIn K (.ref zma)=true) (g_:W.isFn K (.ref zma)=true) (q9:W.keepIn K (.ref zba)=true) (Gv:W.kitOne K (.ref zba) (.ref yaf)=some true) (F3:W.kitOne K (.ref zba) (.ref zba)=some true) (wf:W.nsIn K mainGlobals "AboveRule"=some (some (.ref zca))) (GN:W.plainGet K zca Str.empty=true) (Gb:W.hasDictIn K zca=true) (Ho:W.plainOver K zca=true) (Ik:W.findIn K (.ref zca) "__setattr__"=some (some (.builtin "object.__setattr__"))) (IH:W.findIn K (.ref zca) "__class__"=some (some (.builtin "object.__class__"))) (GB:W.mroIn K zca (.type "object")=some true) (IL:W.findIn K (.ref zca) "name"=some none) (HL:W.findIn K (.ref zca) "cost"=some none) (Ij:W.findIn K (.ref zca) "part_names"=some none) (Hm:W.findIn K (.ref zca) "one"=some none) (Gs:W.findIn K (.ref zca) "other"=some none) (uv:W.makesIn K zca=true) (uQ:W.findIn K (.ref zca) "__init__"=some (some (.ref zoa))) (ic:K.lookup zoa=some ⟨zgc,zdc,.func (W.fnOf "__init__" "AboveRule.__init__" (bz cS) (bj cS) (ak cS) .none zhc zic zjc zec zMa zkc),zfc⟩) (ij:W.codeIn K zMa "AboveRule.__init__"=true) (Hz:W.keepIn K (.ref zoa)=true) (iq:W.isFn K (.ref zoa)=true) (tV:W.keepIn K (.ref zca)=true) (Ih:W.kitOne K (.ref zca) (.ref yaf)=some true) (F4:W.kitOne K (.ref zca) (.ref zca)=some true) (xD:W.nsIn K mainGlobals "TurnRule"=some (some (.ref zea))) (Ic:W.plainGet K zea Str.empty=true) (IM:W.hasDictIn K zea=true) (GF:W.plainOver K zea=true) (GT:W.findIn K (.ref zea) "__setattr__"=some (some (.builtin "object.__setattr__"))) (Ir:W.findIn K (.ref zea) "__class__"=some (some (.builtin "object.__class__"))) (Hi:W.mroIn K zea (.type "object")=some true) (G':W.findIn K (.ref zea) "name"=some none) (IG:W.findIn K (.ref zea) "cost"=some none) (Hc:W.findIn K (.ref zea) "part_names"=some none) (Gd:W.findIn K (.ref zea) "part"=some none) (ID:W.findIn K (.ref zea) "turning"=some none) (vI:W.makesIn K zea=true) (vZ:W.findIn K (.ref zea) "__init__"=some (some (.ref zqa))) (iY:K.lookup zqa=some ⟨zyc,zpc,.func (W.fnOf "__init__" "TurnRule.__init__" (bz dc) (bj dc) (ak dc) .none zzc zAc zBc zqc zRa zCc),zsc⟩) (i':W.codeIn K zRa "TurnRule.__init__"=true) (F_:W.keepIn K (.ref zqa)=true) (iW:W.isFn K (.ref zqa)=true) (wd:W.keepIn K (.ref zea)=true) (Hy:W.kitOne K (.ref zea) (.ref yaf)=some true) (F7:W.kitOne K (.ref zea) (.ref zea)=some true) (tP:W.nsIn K mainGlobals "MOST_SIGNS"=some (some (.int 4 ybo))) (ud:W.nsIn K mainGlobals "MOST_RULES"=some (some (.int 24 ybR))) (uI:W.nsIn K mainGlobals "MOST_NAMES"=some (some (.int 8 ybv))) (Ew:W.nsIn K mainGlobals "MOST"=some (some (.int 6 ybm))) (Gh:W.kitOne K (.ref zga) (.ref zba)=some false) (Ix:W.kitOne K (.ref zga) (.ref zca)=some false) (HW:W.kitOne K (.ref zga) (.ref zea)=some false) (IC:W.kitOne K (.ref zba) (.ref zga)=some false) (Gw:W.kitOne K (.ref zba) (.ref zca)=some false) (Ia:W.kitOne K (.ref zba) (.ref zea)=some false) (GQ:W.kitOne K (.ref zca) (.ref zga)=some false) (GI:W.kitOne K (.ref zca) (.ref zba)=some false) (F':W.kitOne K (.ref zca) (.ref zea)=some false) (Ie:W.kitOne K (.ref zea) (.ref zga)=some false) (Hj:W.kitOne K (.ref zea) (.ref zba)=some false) (Iu:W.kitOne K (.ref zea) (.ref zca)=some false) (lW:W.findIn K (.ref zga) "parts"=some (some (.ref zja))) (so:K.lookup zja=some ⟨zZe,zWe,.func (W.fnOf "parts" "Rule.parts" (bz cQ) (bj cQ) (ak cQ) .none zaf zbf zcf zXe zSc zdf),zYe⟩) (rK:W.codeIn K zSc "Rule.parts"=true) (EI:W.keepIn K (.ref zja)=true) (eR:W.isFn K (.ref zja)=true) (mJ:W.findIn K (.ref zga) "made"=some (some (.ref zAa))) (mH:K.lookup zAa=some ⟨zae,zOd,.func (W.fnOf "made" "CellRule.made" (bz dg) (bj dg) (ak dg) .none zbe zce zde zPd zqb zee),zTd⟩) (mG:W.codeIn K zqb "CellRule.made"=true) (FW:W.keepIn K (.ref zAa)=true) (mv:W.isFn K (.ref zAa)=true) (jK:W.findIn K (.ref zba) "parts"=some (some (.ref zja))) (kr:W.findIn K (.ref zba) "made"=some (some (.ref zta))) (kM:K.lookup zta=some ⟨zhd,zed,.func (W.fnOf "made" "BesideRule.made" (bz ce) (bj ce) (ak ce) .none zid zjd zkd zfd zcb zld),zgd⟩) (jV:W.codeIn K zcb "BesideRule.made"=true) (FV:W.keepIn K (.ref zta)=true) (jW:W.isFn K (.ref zta)=true) (jZ:W.findIn K (.ref zca) "parts"=some (some (.ref zja))) (lC:W.findIn K (.ref zca) "made"=some (some (.ref zya))) (lH:K.lookup zya=some ⟨zBd,zyd,.func (W.fnOf "made" "AboveRule.made" (bz cN) (bj cN) (ak cN) .none zCd zDd zEd zzd zkb zFd),zAd⟩) (lF:W.codeIn K zkb "AboveRule.made"=true) (F5:W.keepIn K (.ref zya)=true) (lK:W.isFn K (.ref zya)=true) (lT:W.findIn K (.ref zea) "parts"=some (some (.ref zja))) (mE:W.findIn K (.ref zea) "made"=some (some (.ref zBa))) (mr:K.lookup zBa=some ⟨zfe,zQd,.func (W.fnOf "made" "TurnRule.made" (bz dv) (bj dv) (ak dv) .none zge zhe zie zRd zrb zje),zUd⟩) (mw:W.codeIn K zrb "TurnRule.made"=true) (FY:W.keepIn K (.ref zBa)=true) (mF:W.isFn K (.ref zBa)=true) (Az:W.nsIn K mainGlobals "Grammar"=some (some (.ref zha))) (Gp:W.plainGet K zha Str.empty=true) (Hq:W.hasDictIn K zha=true) (Ig:W.plainOver K zha=true) (G9:W.findIn K (.ref zha) "__setattr__"=some (some (.builtin "object.__setattr__"))) (GL:W.findIn K (.ref zha) "__class__"=some (some (.builtin "object.__class__"))) (GS:W.mroIn K zha (.type "object")=some true) (Iz:W.findIn K (.ref zha) "signs"=some none) (Gz:W.findIn K (.ref zha) "start"=some none) (IF:W.findIn K (.ref zha) "kept"=some none) (HI:W.findIn K (.ref zha) "numbers"=some none) (xz:W.makesIn K zha=true) (xF:W.findIn K (.ref zha) "__init__"=some (some (.ref zsa))) (jA:K.lookup zsa=some ⟨zTc,zPc,.func (W.fnOf "__init__" "Grammar.__init__" (bz dm) (bj dm) (ak dm) .none zUc zVc zWc zQc zXa zXc),zRc⟩) (jm:W.codeIn K zXa "Grammar.__init__"=true) (Gq:W.keepIn K (.ref zsa)=true) (jC:W.isFn K (.ref zsa)=true) (yS:W.keepIn K (.ref zha)=true) (nh:W.findIn K (.ref zha) "rule"=some (some (.ref zCa))) (ny:K.lookup zCa=some ⟨zFe,zze,.func (W.fnOf "rule" "Grammar.rule" (bz dy) (bj dy) (ak dy) .none zGe zHe zIe zAe zMb zJe),zDe⟩) (m5:W.codeIn K zMb "Grammar.rule"=true) (FZ:W.keepIn K (.ref zCa)=true) (nv:W.isFn K (.ref zCa)=true) (o4:W.findIn K (.ref zha) "many"=some (some (.ref zDa))) (n_:K.lookup zDa=some ⟨zKe,zBe,.func (W.fnOf "many" "Grammar.many" (bz dq) (bj dq) (ak dq) .none zLe zMe zNe zCe zNb zOe),zEe⟩) (oK:W.codeIn K zNb "Grammar.many"=true) (F1:W.keepIn K (.ref zDa)=true) (nE:W.isFn K (.ref zDa)=true) (Cj:W.nsIn K mainGlobals "NoName"=some (some (.ref yaq))) (yf:W.nsIn K mainGlobals "NoNumber"=some (some (.ref yak))) (vN:W.nsIn K mainGlobals "NoPicture"=some (some (.ref yai))) (DL:W.nsIn K mainGlobals "NoRow"=some (some (.ref yaj))) (B2:W.nsIn K mainGlobals "NoText"=some (some (.ref yap))) (Ce:W.nsIn K mainGlobals "NoWord"=some (some (.ref yan))) (zU:W.nsIn K mainGlobals "TooMany"=some (some (.ref yag))) (IJ:W.kitOne K (.ref yaa) (.ref yaa)=some true) (Hu:W.kitOne K (.ref yaa) (.type "ValueError")=some true) (GP:W.kitAny K (.ref yaa) [.ref zfa,.ref zaa,.ref yaq,.ref yak,.ref yai,.ref yaj,.ref zda,.ref yap,.ref yan,.ref yag]=some false) (i7:yam.mro.contains (.ref yac)=true)
  (z0:W.nsIn K mainGlobals "len"=some none) (z1:W.nsIn K mainGlobals "range"=some none) (z2:W.nsIn K mainGlobals "list"=some none) (z3:W.nsIn K mainGlobals "tuple"=some none) (z4:W.nsIn K mainGlobals "isinstance"=some none) (z5:W.nsIn K mainGlobals "int"=some none) (z6:W.nsIn K mainGlobals "bool"=some none) (z7:W.nsIn K mainGlobals "str"=some none) (z8:W.nsIn K mainGlobals "reversed"=some none) (z9:W.nsIn K mainGlobals "all"=some none) (HV:W.nsIn K mainGlobals "enumerate"=some none) (G_:W.nsIn K mainGlobals "zip"=some none) (Go:W.nsIn K mainGlobals "sorted"=some none) (Hx:W.nsIn K mainGlobals "set"=some none) (HZ:W.nsIn K mainGlobals "dict"=some none) (GA:W.nsIn K mainGlobals "min"=some none) (IB:W.nsIn K mainGlobals "max"=some none) (Hv:W.nsIn K mainGlobals "sum"=some none) (Gg:W.nsIn K mainGlobals "ValueError"=some none) :
  ∃fd:FuncData,(∀(s:JW) (v:Value),BindsTo s fd ⟨[v],[]⟩ [("_law_script",v)])/\∀base:Heap,K.In base->base.Ns mainGlobals mg->bb l.prog w K mg base bD 70 fa fd ["_law_script"] (sS K):=by
 obtain⟨an,oc,od,osl,kV,doc,pm,ann,cdv,ct,hl,hc,hk⟩:=Iy;have e:=Gu.symm.trans (W.mg_of X G an);cases e;have FL:=cG hl hc hk;have nb:NB mg:=⟨W.mg_none_of X G z0,W.mg_none_of X G z1,W.mg_none_of X G z2,W.mg_none_of X G z3,W.mg_none_of X G z4,W.mg_none_of X G z5,W.mg_none_of X G z6,W.mg_none_of X G z7,W.mg_none_of X G z8,W.mg_none_of X G z9,W.mg_none_of X G HV,W.mg_none_of X G G_,W.mg_none_of X G Go,W.mg_none_of X G Hx,W.mg_none_of X G HZ,W.mg_none_of X G GA,W.mg_none_of X G IB,W.mg_none_of X G Hv,W.mg_none_of X G Gg⟩;refine⟨W.fnOf "law" "law" (bz qH) (bj qH) (ak qH) .none kV doc pm ann cdv ct,λs v=>.of_eq rfl,λbase _ _=>?_⟩;have ya1:=W.mg_of X G uJ;have yaP:nc K yac [.type "ValueError",.type "Exception",.type "BaseException",.type "object"] "ValueError.__new__":=⟨kt⟩;have xr_QuiltError:XR K yac:=⟨_,_,_,_,_,_,_,_,⟨kt⟩,PySem.F.excBase_ValueError,rfl,PySem.F.excBase_ValueError⟩;have xt_QuiltError:W.XTy K yac:=⟨pE,pj,py,pf,pK,BG,BI,_,_,_,qX⟩;have zra:=W.mg_of X G B7;have xc_NoRule:nc K zda [.type "ValueError",.type "Exception",.type "BaseException",.type "object"] "ValueError.__new__":=⟨tX⟩;have zua:XR K zda:=⟨_,_,_,_,_,_,_,_,⟨tX⟩,PySem.F.excBase_ValueError,rfl,PySem.F.excBase_ValueError⟩;have xt_NoRule:W.XTy K zda:=⟨yv,yw,xU,yP,xR,BG,BI,_,_,_,AJ⟩;have zwa:=W.mg_of X G DG;have zZf:nc K zfa [.type "ValueError",.type "Exception",.type "BaseException",.type "object"] "ValueError.__new__":=⟨wU⟩;have zUa:XR K zfa:=⟨_,_,_,_,_,_,_,_,⟨wU⟩,PySem.F.excBase_ValueError,rfl,PySem.F.excBase_ValueError⟩;have xt_NoFit:W.XTy K zfa:=⟨Ax,AU,AF,zZ,AB,BG,BI,_,_,_,xx⟩;have ybL:mh K zfa zfa:=⟨_,_,_,xx,Io⟩;have zka:=W.mg_of X G vh;have zkf:lG K zaa [.type "ValueError",.type "Exception",.type "BaseException",.type "object"] "ValueError.__new__":=⟨rN⟩;have xt_NoGrammar:W.XTy K zaa:=⟨qQ,sw,tj,rD,sN,BG,BI,_,_,_,ik⟩;have ybb:W.clsIn K zaa=some zva:=by unfold W.clsIn;rw[ik]
 have xh_NoGrammar:W.hasDictIn K zaa=true:=by unfold W.hasDictIn;rw[ybb];exact kL
 have ybf:=cG (st:=iQ) sK rQ rh;have yby:W.XSt K zaa "why":=⟨sM,⟨zva,ybb,sW,kL,q_,qP⟩,tz⟩;have ybp:=ybf.binds (ps:=["self","why"]) λ_ _ _ _ _ _=>bd2 λ_ _=>rfl
 have zna:XI l.prog w K mg base 1 zaa "why":=⟨_,_,_,_,_,_,_,_,zHa,_,_,zkf,PySem.F.excBase_ValueError,rfl,PySem.F.excBase_ValueError,sf,sr,zk ybf yby,ybp⟩;have und_NoGrammar_NoGrammar:mh K zaa zaa:=⟨_,_,_,ik,Ht⟩;have yad:=W.mg_of X G Cr;have yaB:lG K yaa [.type "ValueError",.type "Exception",.type "BaseException",.type "object"] "ValueError.__new__":=⟨xB⟩;have ybM:W.XTy K yaa:=⟨za,yy,yD,y8,yM,BG,BI,_,_,_,kF⟩;have ybe:W.clsIn K yaa=some yam:=by unfold W.clsIn;rw[kF]
 have ybl:W.hasDictIn K yaa=true:=by unfold W.hasDictIn;rw[ybe];exact qG
 have yaW:=cG (st:=gC) x9 xY xT;have ybh:W.XSt K yaa "why":=⟨yW,⟨yam,ybe,yQ,qG,xI,yo⟩,pS⟩;have ybi:=yaW.binds (ps:=["self","why"]) λ_ _ _ _ _ _=>bd2 λ_ _=>rfl
 have yah:XI l.prog w K mg base 1 yaa "why":=⟨_,_,_,_,_,_,_,_,yay,_,_,yaB,PySem.F.excBase_ValueError,rfl,PySem.F.excBase_ValueError,qp,qK,zy yaW ybh,ybi⟩;have und_NoTree_NoTree:mh K yaa yaa:=⟨_,_,_,kF,mz⟩;have ya4:=W.mg_of X G xV;have yax:=W.mg_of X G Cs;have ya3:=W.mg_of X G pz;have ybH:=W.mg_of X G EC;have zvb:=cG (st:=df) mM my F6;have zue:=zvb.binds (ps:=["self","name","cost","part_names"]) λ_ _ _ _ _ _=>bd4 λ_ _ _ _=>rfl
 have ybu:Bt K yaf "__init__" zza:=⟨DJ,Dr,mD,F6⟩;have zfb:=W.mg_of X G y_;have zVa:k7 K zga:=⟨⟨HP,Hf,HX,G7⟩,GY,BG,BI,Hr⟩;have zSa:=cG (st:=dk) iX i5 HF;have zFc:=zSa.binds (ps:=["self","name","cost","sign"]) λ_ _ _ _ _ _=>bd4 λ_ _ _ _=>rfl
 have zvf:Mk K zga zpa:=⟨vP,vo,i_,vB⟩;have zlf:=W.mg_of X G ut;have zbb:k7 K zba:=⟨⟨Ib,He,GV,HE⟩,Ga,BG,BI,IE⟩;have zLa:=cG (st:=cj) gZ g9 G0;have zUb:=zLa.binds (ps:=["self","name","cost","one","other"]) λ_ _ _ _ _ _=>bd5 λ_ _ _ _ _=>rfl
 have zVe:Mk K zba zma:=⟨sZ,qU,g_,q9⟩;have zwf:=W.mg_of X G wf;have zmb:k7 K zca:=⟨⟨GN,Gb,Ho,Ik⟩,IH,BG,BI,GB⟩;have zNa:=cG (st:=cS) ic ij Hz;have zmc:=zNa.binds (ps:=["self","name","cost","one","other"]) λ_ _ _ _ _ _=>bd5 λ_ _ _ _ _=>rfl
 have zmf:Mk K zca zoa:=⟨uv,uQ,iq,tV⟩;have zMf:=W.mg_of X G xD;have zWa:k7 K zea:=⟨⟨Ic,IM,GF,GT⟩,Ir,BG,BI,Hi⟩;have zTa:=cG (st:=dc) iY i' F_;have zGc:=zTa.binds (ps:=["self","name","cost","part","turning"]) λ_ _ _ _ _ _=>bd5 λ_ _ _ _ _=>rfl
 have zxf:Mk K zea zqa:=⟨vI,vZ,iW,wd⟩
 let R:RC:=⟨yaf,zga,zba,zca,zea⟩
 have rk:oP K R:=⟨zVa,zbb,zmb,zWa,⟨GC,GJ,GD,Ii⟩,⟨HJ,HU,Hd,Gn,Hk⟩,⟨IL,HL,Ij,Hm,Gs⟩,⟨G',IG,Hc,Gd,ID⟩,HH,Gv,Ih,Hy,F2,F3,F4,F7⟩;have yaZ:=W.mg_of X G tP;have yaM:=W.mg_of X G ud;have yaI:=W.mg_of X G uI;have yau:=W.mg_of X G Ew;have rk4:CY K R:=⟨λi j hi hj=>by rcases iJ hi with rfl | rfl | rfl | rfl<;>rcases iJ hj with rfl | rfl | rfl | rfl;exact F2;exact Gh;exact Ix;exact HW;exact IC;exact F3;exact Gw;exact Ia;exact GQ;exact GI;exact F4;exact F';exact Ie;exact Hj;exact Iu;exact F7⟩;have zGa:=cG (st:=cQ) so rK EI;have zOa:=zGa.binds (ps:=["self"]) λ_ _ _ _ _ _=>bd1 λ_=>rfl
 have zqd:jD K zga "parts" zja:=⟨lW,eR,EI⟩;have zwb:=cG (st:=dg) mH mG FW;have zve:=zwb.binds (ps:=["self","pictures"]) λ_ _ _ _ _ _=>bd2 λ_ _=>rfl
 have zJd:jD K zga "made" zAa:=⟨mJ,mv,FW⟩;have zHc:jD K zba "parts" zja:=⟨jK,eR,EI⟩;have zeb:=cG (st:=ce) kM jV FV;have zrd:=zeb.binds (ps:=["self","pictures"]) λ_ _ _ _ _ _=>bd2 λ_ _=>rfl
 have zbd:jD K zba "made" zta:=⟨kr,jW,FV⟩;have zcd:jD K zca "parts" zja:=⟨jZ,eR,EI⟩;have znb:=cG (st:=cN) lH lF F5;have zKd:=znb.binds (ps:=["self","pictures"]) λ_ _ _ _ _ _=>bd2 λ_ _=>rfl
 have zsd:jD K zca "made" zya:=⟨lC,lK,F5⟩;have ztd:jD K zea "parts" zja:=⟨lT,eR,EI⟩;have zxb:=cG (st:=dv) mr mw FY;have zwe:=zxb.binds (ps:=["self","pictures"]) λ_ _ _ _ _ _=>bd2 λ_ _=>rfl
 have zLd:jD K zea "made" zBa:=⟨mE,mF,FY⟩;have zWf:=W.mg_of X G Az;have zPa:k7 K zha:=⟨⟨Gp,Hq,Ig,G9⟩,GL,BG,BI,GS⟩;have zYa:=cG (st:=dm) jA jm Gq;have zdd:=zYa.binds (ps:=["self","signs","start","rules"]) λ_ _ _ _ _ _=>bd4 λ_ _ _ _=>rfl
 have zNf:Mk K zha zsa:=⟨xz,xF,jC,yS⟩;have gk:F8 K zha:=⟨zPa,Iz,Gz,IF,HI⟩;have zVb:=cG (st:=dy) ny m5 FZ;have zQe:=zVb.binds (ps:=["self","k"]) λ_ _ _ _ _ _=>bd2 λ_ _=>rfl
 have zxe:jD K zha "rule" zCa:=⟨nh,nv,FZ⟩;have zWb:=cG (st:=dq) n_ oK F1;have zRe:=zWb.binds (ps:=["self"]) λ_ _ _ _ _ _=>bd1 λ_=>rfl
 have zye:jD K zha "many" zDa:=⟨o4,nE,F1⟩;have zib:lG K zfa [.type "ValueError",.type "Exception",.type "BaseException",.type "object"] "ValueError.__new__":=zZf.out;have ybS:Fc l.prog w K mg base 1 yaa "why":=⟨_,_,_,_,_,_,_,_,yay,_,_,yaB,PySem.F.excBase_ValueError,rfl,PySem.F.excBase_ValueError,qp,qK,ya yaW ybh,ybi⟩;have yaH:=W.mg_of X G Cj;have ya5:=W.mg_of X G yf;have ya7:=W.mg_of X G vN;have ya8:=W.mg_of X G DL;have yaS:=W.mg_of X G B2;have yaT:=W.mg_of X G Ce;have yaO:=W.mg_of X G zU;have ybA:mh K yaa yac:=⟨_,_,_,kF,i7⟩;have yao:=a1.cal (P:=l.prog) (w:=w) (base:=base) X G (λ_ F m k b=>vj F nb) (λ_ _ _ _ _ _=>bd2 λ_ _=>rfl);have yav:=a2.cal (P:=l.prog) (w:=w) (base:=base) X G (λ_ F m k b=>vb F nb ya3 ya4 yao) (λ_ _ _ _ _ _=>bd1 λ_=>rfl);have zia:yb l.prog w K mg base (dz l.prog w) 3 "Rule" "__init__" ["self","name","cost","part_names"] (cO K zda):=⟨_,_,_,rP zvb nb zra zua yav,ybH,ybu,zue⟩;have zyb:oj l.prog w K mg base (dz l.prog w) 4 "CellRule" zga ["self","name","cost","sign"] (gI K zda):=⟨_,_,qY zSa nb yax zra zua yao zia,zfb,zvf,zFc⟩;have zZa:oj l.prog w K mg base (dz l.prog w) 4 "BesideRule" zba ["self","name","cost","one","other"] (cL K zda):=⟨_,_,nK zLa nb zia,zlf,zVe,zUb⟩;have zgb:oj l.prog w K mg base (dz l.prog w) 4 "AboveRule" zca ["self","name","cost","one","other"] (cL K zda):=⟨_,_,pk zNa nb zia,zwf,zmf,zmc⟩;have zzb:oj l.prog w K mg base (dz l.prog w) 4 "TurnRule" zea ["self","name","cost","part","turning"] (gL K zda):=⟨_,_,rq zTa nb zra zua zia,zMf,zxf,zGc⟩;have yas:sY l.prog w K mg base bD 1 "parts" (lg K R):=C_ ⟨_,_,_,dQ zGa nb,zVa.cl,zqd,zOa⟩ ⟨_,_,_,dQ zGa nb,zbb.cl,zHc,zOa⟩ ⟨_,_,_,dQ zGa nb,zmb.cl,zcd,zOa⟩ ⟨_,_,_,dQ zGa nb,zWa.cl,ztd,zOa⟩;have yaY:=a3.cal (P:=l.prog) (w:=w) (base:=base) X G (λ_ F m k b=>sX F nb yaZ yax yao) (λ_ _ _ _ _ _=>bd1 λ_=>rfl);have yaV:=a4.cal (P:=l.prog) (w:=w) (base:=base) X G (λ_ F m k b=>lV F nb rk rk4 yaM zfb zka zna yaY yav) (λ_ _ _ _ _ _=>bd3 λ_ _ _=>rfl);have yaK:=a5.cal (P:=l.prog) (w:=w) (base:=base) X G (λ_ F m k b=>ju F nb rk yas) (λ_ _ _ _ _ _=>bd2 λ_ _=>rfl);have zZb:oj l.prog w K mg base (dz l.prog w) 4 "Grammar" zha ["self","signs","start","rules"] (ge K R zaa):=⟨_,_,rG zYa nb yaI zka zna yaV yaK,zWf,zNf,zdd⟩;have yae:lM l.prog w K mg base bD 1 zha "rule" ["self","k"] (dD R zha):=⟨_,_,si zVb nb zPa.cl gk.na,zPa.cl,zxe,zQe⟩;have yaD:lM l.prog w K mg base bD 1 zha "many" ["self"] (gt R zha):=⟨_,_,qS zWb nb zPa.cl gk.na,zPa.cl,zye,zRe⟩;have yaJ:=a6.cal (P:=l.prog) (w:=w) (base:=base) X G (λ_ F m k b=>yk F nb yau zwa zUa) (λ_ _ _ _ _ _=>bd2 λ_ _=>rfl);have ya2:=a7.cal (P:=l.prog) (w:=w) (base:=base) X G (λ_ F m k b=>At F nb yau zwa zUa) (λ_ _ _ _ _ _=>bd2 λ_ _=>rfl);have ya6:=a8.cal (P:=l.prog) (w:=w) (base:=base) X G (λ_ F m k b=>ye F nb) (λ_ _ _ _ _ _=>bd1 λ_=>rfl);have yaR:=a9.cal (P:=l.prog) (w:=w) (base:=base) X G (λ_ F m k b=>yF F nb) (λ_ _ _ _ _ _=>bd2 λ_ _=>rfl);have yaU:=FR.cal (P:=l.prog) (w:=w) (base:=base) X G (λ_ F m k b=>va F nb yaR) (λ_ _ _ _ _ _=>bd1 λ_=>rfl);have zvd:=Fa.cal (P:=l.prog) (w:=w) (base:=base) X G (λ_ F m k b=>xH F nb ya6 yaU) (λ_ _ _ _ _ _=>bd2 λ_ _=>rfl);have yaF:sY l.prog w K mg base (dz l.prog w) 4 "made" (md K R zfa):=C_ ⟨_,_,_,(s_ zwb zVa.cl rk.a0.2.2.2).lift.mono nofun,zVa.cl,zJd,zve⟩ ⟨_,_,_,(nV zeb yaJ).mono nofun,zbb.cl,zbd,zrd⟩ ⟨_,_,_,(pG znb ya2).mono nofun,zmb.cl,zsd,zKd⟩ ⟨_,_,_,(sd zxb zWa.cl rk.a3.2.2.2.2 zvd).lift,zWa.cl,zLd,zwe⟩;have yaz:=GE.cal (P:=l.prog) (w:=w) (base:=base) X G (λ_ F m k b=>je F nb rk yad yah yas yae yaD m k b 60 nofun) (λ_ _ _ _ _ _=>bd4 λ_ _ _ _=>rfl);have yaA:=Hn.cal (P:=l.prog) (w:=w) (base:=base) X G (λ_ F m k b=>Ag F nb zwa zib rfl ybL yad ybS yaF yae m k b 60 nofun) (λ_ _ _ _ _ _=>bd3 λ_ _ _=>rfl);have yaw:=GX.cal (P:=l.prog) (w:=w) (base:=base) X G (λ_ F m k b=>BS F nb yaz yaA) (λ_ _ _ _ _ _=>bd2 λ_ _=>rfl);have yaC:=HM.cal (P:=l.prog) (w:=w) (base:=base) X G (λ_ F m k b=>ja F nb m k b 60 nofun) (λ_ _ _ _ _ _=>bd1 λ_=>rfl);have yaX:=HQ.cal (P:=l.prog) (w:=w) (base:=base) X G (λ_ F m k b=>wm F nb nb.sum rk yae yaw yaC) (λ_ _ _ _ _ _=>bd2 λ_ _=>rfl);have zla:=Hs.cal (P:=l.prog) (w:=w) (base:=base) X G (λ_ F m k b=>xA F nb) (λ_ _ _ _ _ _=>bd2 λ_ _=>rfl);have zJc:=G8.cal (P:=l.prog) (w:=w) (base:=base) X G (λ_ F m k b=>wv F nb) (λ_ _ _ _ _ _=>bd2 λ_ _=>rfl);have zIc:=HK.cal (P:=l.prog) (w:=w) (base:=base) X G (λ_ F m k b=>vi F nb) (λ_ _ _ _ _ _=>bd1 λ_=>rfl);have zAb:=HR.cal (P:=l.prog) (w:=w) (base:=base) X G (λ_ F m k b=>qV F nb) (λ_ _ _ _ _ _=>bd1 λ_=>rfl);have zXb:=GR.cal (P:=l.prog) (w:=w) (base:=base) X G (λ_ F m k b=>uL F nb zAb) (λ_ _ _ _ _ _=>bd2 λ_ _=>rfl);have zEa:=Hg.cal (P:=l.prog) (w:=w) (base:=base) X G (λ_ F m k b=>zq F nb zXb) (λ_ _ _ _ _ _=>bd2 λ_ _=>rfl);have zab:=GO.cal (P:=l.prog) (w:=w) (base:=base) X G (λ_ F m k b=>xM F nb rk zyb zZa zgb zzb) (λ_ _ _ _ _ _=>bd1 λ_=>rfl);have zxa:=Iw.cal (P:=l.prog) (w:=w) (base:=base) X G (λ_ F m k b=>mB F nb) (λ_ _ _ _ _ _=>bd3 λ_ _ _=>rfl);have zwd:=GZ.cal (P:=l.prog) (w:=w) (base:=base) X G (λ_ F m k b=>xZ F nb zxa zEa) (λ_ _ _ _ _ _=>bd4 λ_ _ _ _=>rfl);have zYb:=Iv.cal (P:=l.prog) (w:=w) (base:=base) X G (λ_ F m k b=>uc F nb) (λ_ _ _ _ _ _=>bd3 λ_ _ _=>rfl);have zKc:=HY.cal (P:=l.prog) (w:=w) (base:=base) X G (λ_ F m k b=>vp F nb nb.sum zwd zEa zYb) (λ_ _ _ _ _ _=>bd4 λ_ _ _ _=>rfl);have zBb:=HN.cal (P:=l.prog) (w:=w) (base:=base) X G (λ_ F m k b=>rA F nb gk zab zZb) (λ_ _ _ _ _ _=>bd3 λ_ _ _=>rfl);have zNc:=HS.cal (P:=l.prog) (w:=w) (base:=base) X G (λ_ F m k b=>wg F nb zla zIc zJc zxa zKc zBb) (λ_ _ _ _ _ _=>bd3 λ_ _ _=>rfl);have zJa:=Iq.cal (P:=l.prog) (w:=w) (base:=base) X G (λ_ F m k b=>u7 F nb) (λ_ _ _ _ _ _=>bd1 λ_=>rfl);have zac:=Gj.cal (P:=l.prog) (w:=w) (base:=base) X G (λ_ F m k b=>uz F nb) (λ_ _ _ _ _ _=>bd1 λ_=>rfl);have yaG:=IK.cal (P:=l.prog) (w:=w) (base:=base) X G (λ_ F m k b=>Ck F nb) (λ_ _ _ _ _ _=>bd2 λ_ _=>rfl)
 have zhb:=GU.cal (P:=l.prog) (w:=w) (base:=base) X G (λ_ F m k b=>pU F nb m k b 61 nofun) (λ_ _ _ _ _ _=>bd3 λ_ _ _=>rfl);have zcc:=GH.cal (P:=l.prog) (w:=w) (base:=base) X G (λ_ F m k b=>ur F nb zac yaG zhb) (λ_ _ _ _ _ _=>bd4 λ_ _ _ _=>rfl);have zLc:=Gc.cal (P:=l.prog) (w:=w) (base:=base) X G (λ_ F m k b=>v5 F nb) (λ_ _ _ _ _ _=>bd1 λ_=>rfl);have zIa:=Hw.cal (P:=l.prog) (w:=w) (base:=base) X G (λ_ F m k b=>uy F nb zEa m k b 60 nofun) (λ_ _ _ _ _ _=>bd3 λ_ _ _=>rfl);have zOc:=GW.cal (P:=l.prog) (w:=w) (base:=base) X G (λ_ F m k b=>vc F nb zLc zIa) (λ_ _ _ _ _ _=>bd2 λ_ _=>rfl);have zjb:=Hb.cal (P:=l.prog) (w:=w) (base:=base) X G (λ_ F m k b=>pw F nb zJa) (λ_ _ _ _ _ _=>bd2 λ_ _=>rfl);have zbc:=II.cal (P:=l.prog) (w:=w) (base:=base) X G (λ_ F m k b=>tO F nb ya7 zwa zka yaH ya5 ya8 zra yaS yad yaT yaO ybM ybl pS IJ Hu GP) (λ_ _ _ _ _ _=>bd1 λ_=>rfl);have zDb:=Gx.cal (P:=l.prog) (w:=w) (base:=base) X G (λ_ F m k b=>uM F nb nb.sum m k b 60 nofun) (λ_ _ _ _ _ _=>bd2 λ_ _=>rfl);have zMc:=Gy.cal (P:=l.prog) (w:=w) (base:=base) X G (λ_ F m k b=>uZ F nb yaw yaX) (λ_ _ _ _ _ _=>bd3 λ_ _ _=>rfl);have zxd:=H_.cal (P:=l.prog) (w:=w) (base:=base) X G (λ_ F m k b=>xS F nb ya1 yaP rfl yaB ybA zMc zbc zjb zJa zIa zDb) (λ_ _ _ _ _ _=>bd5 λ_ _ _ _ _=>rfl);exact Dq FL nb zla zNc zcc zOc zxd
theorem walk{l:W.OpenLaw}{q:J3}{loose:J4}{XP:(Str->Option Value)->Heap->Prop}{YP:World->Heap->Prop}{d:DefRec}{K:Params->W.Frag}(hn:l.most=some 63)(hdf:d.params.defaults=[])
  (hY:∀(w:J9) (h:Heap),YP w h->(K w.params).In h)
  (F:∀(w:J9) (mg:JZ) (fa:Addr) (h:Heap),(K w.params).In h->h.Ns mainGlobals mg->mg d.name=some (.ref fa) ->
   ∃fd:FuncData,(∀(s:JW) (u:Value),BindsTo s fd ⟨[u],[]⟩ [("_law_script",u)])/\∀base:Heap,(K w.params).In base->base.Ns mainGlobals mg->bb l.prog w (K w.params) mg base bD 70 fa fd ["_law_script"] (sS (K w.params))) :
  W.WalkO q loose XP YP l.row.toRowW d [] (λf vs=>PySem.call f vs):=
 L2.walk_of (n:=63) (k:=70) (x:="_law_script") (CX:=λ_=>bD) (sp:=λw=>sS (K w.params)) hn nofun hdf ⟨rfl,nofun,nofun⟩ hY F (λ_ _ a ns hl _ hS=>⟨a,ns,rfl,hS,λ_=>rfl⟩) λ_ _ _ _ _ z=>z
end Q16
open PySem PySem.W PyProof.Rows
local macro_rules | `(tactic| walk_at "kk")=>`(tactic| first | (refine' Q16.fk_mk ?p ?q ?r ?s;(case p=>k_is);(case q=>k_is);(case r=>k_is);(case s=>k_is)) | (refine' Q16.mk_mk ?p ?q ?r ?s;(case p=>k_is);(case q=>k_is);(case r=>k_is);(case s=>k_is)) | k_is | kernel_rfl | rfl | decide +kernel)
set_option maxRecDepth 100000 in
set_option maxHeartbeats 0 in
theorem PySem.Challenge.cw_quiltlaw_k16_no_tree_holds : PySem.Challenge.rw_quiltlaw_k16_no_tree.Holds := by
 w_on;o_law;k_head;(case hw=>w_witness2)
 k_fill
 refine Q16.walk (l:=PySem.Challenge.rw_quiltlaw_k16_no_tree) rfl rfl (λw h Y=>PySem.W.kIn_of Y) ?F
 case F=>
  intro w mg fa h KX G hmg
  refine' Q16.all_mk KX G hmg ?_ ?_ ?_ ?_ ?_ ?_ ?_ ?_ ?_ ?_ ?_ ?_ ?_ ?_ ?_ ?_ ?_ ?_ ?_ ?_ ?_ ?_ ?_ ?_ ?_ ?_ ?_ ?_ ?_ ?_ ?_ ?_ ?_ ?_ ?_ ?_ ?_ ?_ ?_ ?_ ?_ ?_ ?_ ?_ ?_ ?_ ?_ ?_ ?_ ?_ ?_ ?_ ?_ ?_ ?_ ?_ ?_ ?_ ?_ ?_ ?_ ?_ ?_ ?_ ?_ ?_ ?_ ?_ ?_ ?_ ?_ ?_ ?_ ?_ ?_ ?_ ?_ ?_ ?_ ?_ ?_ ?_ ?_ ?_ ?_ ?_ ?_ ?_ ?_ ?_ ?_ ?_ ?_ ?_ ?_ ?_ ?_ ?_ ?_ ?_ ?_ ?_ ?_ ?_ ?_ ?_ ?_ ?_ ?_ ?_ ?_ ?_ ?_ ?_ ?_ ?_ ?_ ?_ ?_ ?_ ?_ ?_ ?_ ?_ ?_ ?_ ?_ ?_ ?_ ?_ ?_ ?_ ?_ ?_ ?_ ?_ ?_ ?_ ?_ ?_ ?_ ?_ ?_ ?_ ?_ ?_ ?_ ?_ ?_ ?_ ?_ ?_ ?_ ?_ ?_ ?_ ?_ ?_ ?_ ?_ ?_ ?_ ?_ ?_ ?_ ?_ ?_ ?_ ?_ ?_ ?_ ?_ ?_ ?_ ?_ ?_ ?_ ?_ ?_ ?_ ?_ ?_ ?_ ?_ ?_ ?_ ?_ ?_ ?_ ?_ ?_ ?_ ?_ ?_ ?_ ?_ ?_ ?_ ?_ ?_ ?_ ?_ ?_ ?_ ?_ ?_ ?_ ?_ ?_ ?_ ?_ ?_ ?_ ?_ ?_ ?_ ?_ ?_ ?_ ?_ ?_ ?_ ?_ ?_ ?_ ?_ ?_ ?_ ?_ ?_ ?_ ?_ ?_ ?_ ?_ ?_ ?_ ?_ ?_ ?_ ?_ ?_ ?_ ?_ ?_ ?_ ?_ ?_ ?_ ?_ ?_ ?_ ?_ ?_ ?_ ?_ ?_ ?_ ?_ ?_ ?_ ?_ ?_ ?_ ?_ ?_ ?_ ?_ ?_ ?_ ?_ ?_ ?_ ?_ ?_ ?_ ?_ ?_ ?_ ?_ ?_ ?_ ?_ ?_ ?_ ?_ ?_ ?_ ?_ ?_ ?_ ?_ ?_ ?_ ?_ ?_ ?_ ?_ ?_ ?_ ?_ ?_ ?_ ?_ ?_ ?_
  all_goals (try walk_at "kk")
