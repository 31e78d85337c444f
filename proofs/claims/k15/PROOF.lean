import PyProof.Rows.All
import Wide.All
import OpenK.AllK
import Wide.FinOn
import Lean
import PyProof.EqAt
import PyProof.EqKinds
import PyProof.TupleCall
import PyProof.CollectIter
import PyProof.JoinWalk
import PyProof.StrOps
import PyProof.ListOps
import PyProof.StrLawsJoin
import KE.KRevIter
import PyProof.StrLawsFirst
import PyProof.Rows.StrNews2
import PyProof.StrLawsTight
import PyProof.StrLawsChain
import KE.KIntText
import KE.IntTextLaws
import PyProof.ListStr
import KE.KDictLaws
import KE.KDictList
import PyProof.Rows.SetFrom
import PyProof.FitsReplace
import KE.KEqDict
import PyProof.Rows.SumAny
import PyProof.Rows.CallKwBuiltin
import PyProof.EnumMake
import PyProof.TupleIter
import PyProof.Rows.TupIter
import PySem.Challenge.RW_quiltlaw_k15_grown_trees_laid
namespace PySem.W.Fast
def tw13760658428126206016:=0
def tw6162249247708207168:=0
def tw14205430763748779168:=0
def tw11419525433642391744:=0
def tw17509019119947592896:=0
def tw667960352595720512:=0
def tw8906012704332304736:=0
def tw5552973952692828544:=0
def tw477812037419611648:=0
def tw2711383555000508128:=0
def tw12471410659228599104:=0
def tw5071327548568744800:=0
def tw14105739096755985344:=0
def tw18410918980576112576:=0
def tw16520079159126809665:=0
def tw15549745973478502465:=0
def tw2047435669666664545:=0
def tw10354410456800849025:=0
def tw11703042346410568833:=0
def tw3716036142905323649:=0
def tw3191792960621732033:=0
def tw17769761283939935457:=0
def tw17684816406936488161:=0
def tw8219339891741006113:=0
def tw15663745686113256769:=0
def tw4922621993838851393:=0
def tw1646416847599132993:=0
def tw1882918802260019617:=0
def tw15576719487972605345:=0
def tw12437428232104176065:=0
def tw9298521998599664065:=0
def tw3061444760605483489:=0
def tw6384644929586177537:=0
def tw9201261198377273889:=0
def tw2668935851950961441:=0
def tw10987721292242418497:=0
def tw4242289392046742562:=0
def tw4240250698621725730:=0
def tw15845396900163232834:=0
def tw18264609097795658850:=0
def tw5639143252294381730:=0
def tw2979295324309725474:=0
def tw7638550263565649218:=0
def tw4372282374307955010:=0
def tw767964729510693282:=0
def tw6667768060405141922:=0
def tw9236032224482387362:=0
def tw13475972123947148738:=0
def tw17122919957791565282:=0
def tw17555600654585613858:=0
def tw2339524734535272002:=0
def tw5670353288331346530:=0
def tw2328255678128442978:=0
def tw9437174785049778850:=0
def tw3981744949328373442:=0
def tw6704024188292010722:=0
def tw3162553853087583074:=0
def tw13765505449200299874:=0
def tw2991242689081116546:=0
def tw3040446641424160674:=0
def tw5561974147917124578:=0
def tw7968064954912448579:=0
def tw1508650815593654339:=0
def tw8073026854109767779:=0
def tw8074593680208368739:=0
def tw12489951409947993187:=0
def tw17195944141617936515:=0
def tw5344007210802740355:=0
def tw9631823160674565315:=0
def tw3954136058132548995:=0
def tw7507915073794222563:=0
def tw9337864057115377155:=0
def tw12837778671576578595:=0
def tw4872796720848090691:=0
def tw10705605752928080451:=0
def tw9232656772289864323:=0
def tw14349627426149461635:=0
def tw3222142411812679363:=0
def tw7799259828393489123:=0
def tw11180762243632923459:=0
def tw7749335576535388995:=0
def tw8534446500615500643:=0
def tw7649441438331287427:=0
def tw2478428501822504899:=0
def tw14317406210617714756:=0
def tw7426128440510111844:=0
def tw17772376596705615972:=0
def tw10406435838887018596:=0
def tw12290554201240744068:=0
def tw4892811631892470980:=0
def tw7528320024071396548:=0
def tw1999645446903907524:=0
def tw1609267751695953252:=0
def tw7837503697440320868:=0
def tw4219372934284900836:=0
def tw12603518741071951428:=0
def tw4666094162603593316:=0
def tw15403488130453913220:=0
def tw18030199402456455844:=0
def tw8512829037903508132:=0
def tw2811513822243104452:=0
def tw16246044010593179364:=0
def tw8198002540324877092:=0
def tw1126524135180796772:=0
def tw5702330106585106308:=0
def tw4931281463780978596:=0
def tw12398824816127782820:=0
def tw5723211151398676452:=0
def tw3329180349788051428:=0
def tw15082838908398411845:=0
def tw6597992914854008901:=0
def tw17292726270862574693:=0
def tw17461554054482538629:=0
def tw13085182028811138245:=0
def tw14667319351689609445:=0
def tw11783414850327672037:=0
def tw2076369195648768357:=0
def tw16924552996860684709:=0
def tw15415984867222420901:=0
def tw6013919364618034629:=0
def tw10485829944038891013:=0
def tw14905907683236937285:=0
def tw8115406783526746693:=0
def tw6884436258765551173:=0
def tw9086352602117086885:=0
def tw17976819634330496677:=0
def tw12763505849261333189:=0
def tw11001178593020547877:=0
def tw4564549955160739653:=0
def tw14931245273314961414:=0
def tw11434227937403401254:=0
def tw16309470749130847334:=0
def tw62440289834268870:=0
def tw16867881066595951814:=0
def tw12120391144274074886:=0
def tw13333498134862984454:=0
def tw10929945346784481574:=0
def tw7269460154956655046:=0
def tw12338222667162387078:=0
def tw14507656520586537766:=0
def tw7988819566176996166:=0
def tw704451155954252646:=0
def tw6976121728713016198:=0
def tw8955994518699211654:=0
def tw3159454892953617318:=0
def tw17000333535843543047:=0
def tw1549201593929049191:=0
def tw3962839742613429383:=0
def tw9435192542607752423:=0
def tw803527045200375079:=0
def tw4336917280561703207:=0
def tw288216087004981607:=0
def tw14602319977751179687:=0
def tw14367922291588754951:=0
def tw780819784712355367:=0
def tw7957699022384250471:=0
def tw12418275518308184679:=0
def tw14234280742632000135:=0
def tw9294489481437470407:=0
def tw15234296091076596455:=0
def tw2182197172771216103:=0
def tw11504785305620784967:=0
def tw11780222140558218119:=0
def tw2824231041617513351:=0
def tw3734145122610183079:=0
def tw11305876772252425288:=0
def tw3507811338798990472:=0
def tw8564572975755675816:=0
def tw1344895876026306760:=0
def tw11323643521932434632:=0
def tw12692643992235598056:=0
def tw14078945769879014696:=0
def tw355393508967846184:=0
def tw2406744661664587048:=0
def tw6848653853573625192:=0
def tw18010411777274116456:=0
def tw11228332642380549544:=0
def tw2257812145518412264:=0
def tw12656048929191119336:=0
def tw12895711123743097384:=0
def tw11495731004345882184:=0
def tw3553848672375557768:=0
def tw5237771727655049896:=0
def tw5384058871428916904:=0
def tw11076054683914854056:=0
def tw10961843024175330984:=0
def tw9004402652913143656:=0
def tw5066724692247845832:=0
def tw7331378859702520905:=0
def tw16880904937057086569:=0
def tw4106708599554137225:=0
def tw10647488939163018441:=0
def tw3643082482537509129:=0
def tw13611248480881804649:=0
def tw11112008121124288969:=0
def tw16625552963433305577:=0
def tw4160565907567493673:=0
def tw3153932877793215049:=0
def tw8174563661179573833:=0
def tw13345582897496727145:=0
def tw4659778106907030121:=0
def tw14845540032069968585:=0
def tw11899748188943319753:=0
def tw1142881155103566633:=0
def tw16849315290657683273:=0
def tw16429737406059385833:=0
def tw1446953510280258602:=0
def tw1934755434327160970:=0
def tw16603502112802942122:=0
def tw6009013795241471210:=0
def tw18057812760698931498:=0
def tw9089193770155268426:=0
def tw15722525256263580010:=0
def tw9787288710080379242:=0
def tw6897776969300218250:=0
def tw584036571034830410:=0
def tw5704851109934135114:=0
def tw15219561208397872010:=0
def tw5737227661138187242:=0
def tw6905213161124236299:=0
def tw15142669526019612683:=0
def tw15541785850254417931:=0
def tw3757110351580015691:=0
def tw192923570128754891:=0
def tw998527542166353099:=0
def tw14007560701606481099:=0
def tw944837052107535691:=0
def tw17685058653913622859:=0
def tw14662548752041053547:=0
def tw8834876567413235051:=0
def tw11977985673474693483:=0
def tw8677773400776620459:=0
def tw6042485401477003787:=0
def tw16709529526938009131:=0
def tw522268150788046443:=0
def tw15136907607276649099:=0
def tw18357058523528222507:=0
def tw12685562237930581803:=0
def tw15588671500097487691:=0
def tw2061341633052044139:=0
def tw9831551360497022859:=0
def tw1629158484840006603:=0
def tw3851833806713172971:=0
def tw9863480438299501612:=0
def tw535225577872099468:=0
def tw6477820471849461932:=0
def tw3420450642576780492:=0
def tw6341516993690418380:=0
def tw11825607794686060908:=0
def tw10342847416370549196:=0
def tw6814457186358502956:=0
def tw4303171930231843372:=0
def tw12975082403140872748:=0
def tw7593914609171321452:=0
def tw3017788465146380940:=0
def tw7020264010104158860:=0
def tw16276264366760016588:=0
def tw2479539936090932012:=0
def tw17081519307692045100:=0
def tw17181303569836032908:=0
def tw15670582942110806988:=0
def tw8225629890378968109:=0
def tw7939364419391280269:=0
def tw15267324997746184365:=0
def tw10287649388277554413:=0
def tw17683810346803648781:=0
def tw2603469346223500621:=0
def tw233712201791291789:=0
def tw10387583278589416877:=0
def tw6243135077677221453:=0
def tw7906866819508075085:=0
def tw11920150120687609453:=0
def tw10029935855699822285:=0
def tw1402095292199101197:=0
def tw3938241349538847501:=0
def tw10398226662376810317:=0
def tw1186425388993138573:=0
def tw11400432401108645805:=0
def tw14024229210059812813:=0
def tw12714273156598912973:=0
def tw3438046049215162349:=0
def tw8138034299740522510:=0
def tw16522165058186480718:=0
def tw16151257269249087598:=0
def tw8001639233488317614:=0
def tw6879392037020229870:=0
def tw10554006619073333518:=0
def tw5938563828778080654:=0
def tw13812762470925481390:=0
def tw9576780436422464974:=0
def tw13023469083024026094:=0
def tw15902294510346549774:=0
def tw13251256460018341422:=0
def tw3323546713139173934:=0
def tw14056824628318231118:=0
def tw7495157127456540270:=0
def tw18082505286622563022:=0
def tw10296338787458259662:=0
def tw12897858452942748462:=0
def tw10332305466871162702:=0
def tw16644207092554722158:=0
def tw9647979957689294766:=0
def tw687718172502296558:=0
def tw15574315511821902830:=0
def tw11384685461171143759:=0
def tw3686211585806141519:=0
def tw12031194069920242927:=0
def tw9944668465781405935:=0
def tw13060449625918503183:=0
def tw9882245605826668847:=0
def tw18352809713901057327:=0
def tw4222499549131639247:=0
def tw15708357046766263823:=0
def tw17119290207510013455:=0
def tw15016514820400016911:=0
def tw565421505006515759:=0
def tw11647282055810560687:=0
def tw1380097256668914415:=0
def tw10633387426908223311:=0
def tw12200663053304321903:=0
def tw5558917909456213903:=0
def tw5740579211867973583:=0
def tw1811245413725517904:=0
def tw2468754132119486544:=0
def tw5134515868461866128:=0
def tw4255252598583179472:=0
def tw12228371420365512912:=0
def tw6102034713235680560:=0
def tw8364151220360160624:=0
def tw15119367612606691728:=0
def tw5383829446711262704:=0
def tw14288146070117682704:=0
def tw7456662541643703824:=0
def tw1636047498056142672:=0
def tw16922125101419856784:=0
def tw388310855590458256:=0
def tw15922772778656685968:=0
def tw8802440713319893009:=0
def tw7615216670218144817:=0
def tw961462458482755633:=0
def tw5699399167957521489:=0
def tw6305255508697264337:=0
def tw3229768686984873169:=0
def tw3460153982891989329:=0
def tw13035776685912536401:=0
def tw2393541365506479441:=0
def tw12900098947136008561:=0
def tw900132598631303601:=0
def tw1699947630932390321:=0
def tw3664477844494288433:=0
def tw3534367476530741873:=0
def tw11557898192107645585:=0
def tw12119269574020902577:=0
def tw7450622753430135505:=0
def tw881899226202800849:=0
def tw6925695364860727057:=0
def tw12739087748030052209:=0
def tw501710827567080305:=0
def tw4447032103301437329:=0
def tw17830198000797391793:=0
def tw12439535372362070001:=0
def tw9549453767467526129:=0
def tw10532838177705933938:=0
def tw14686154143516341394:=0
def tw11378398665560994962:=0
def tw15411719279050135826:=0
def tw396899254153816338:=0
def tw17457308860026505554:=0
def tw2190775666587761010:=0
def tw7805679061970459026:=0
def tw7026330948186914194:=0
def tw13930703018463155634:=0
def tw8205376667801481650:=0
def tw9098026550988505554:=0
def tw7174366606204331506:=0
def tw11654841540682751538:=0
def tw16848378996330469042:=0
def tw10229923933603968818:=0
def tw852103264502411122:=0
def tw13226178066528522130:=0
def tw4330539874858922898:=0
def tw14940193480348790738:=0
def tw14844653981483411442:=0
def tw1237704376815642675:=0
def tw8805110432630463539:=0
def tw13141262053706785843:=0
def tw15830601659770014835:=0
def tw17050661541647522995:=0
def tw11699016778932461811:=0
def tw7127738568899646739:=0
def tw570824246499596563:=0
def tw14060646662147715411:=0
def tw8560744367843888467:=0
def tw4884300160183414195:=0
def tw10154959135698366899:=0
def tw1072923778936163859:=0
def tw13034503274696752691:=0
def tw17102285180819388083:=0
def tw8207498728231078675:=0
def tw18439961462986745619:=0
def tw9413939285493114643:=0
def tw12534442377953670003:=0
def tw7518804245463352404:=0
def tw5289690984145440884:=0
def tw12302959750537341108:=0
def tw6699330440856621268:=0
def tw17899574311637628148:=0
def tw11054847929980842356:=0
def tw15868633403403056596:=0
def tw11708304982879002100:=0
def tw17184094425594750484:=0
def tw15241270369484959284:=0
def tw8463244176355165780:=0
def tw5601927551258150516:=0
def tw6605086597620091572:=0
def tw4241334527897029332:=0
def tw11799671046981417716:=0
def tw1287208505085419284:=0
def tw2426006265233164084:=0
def tw14997941680537257844:=0
def tw15105725139707645844:=0
def tw11373746232304673813:=0
def tw17686905693872643125:=0
def tw13063821282753884245:=0
def tw3902208062805332053:=0
def tw18125117299402645781:=0
def tw15754531572815251861:=0
def tw16491751715710746069:=0
def tw212449822939777525:=0
def tw10790627337223842325:=0
def tw6393012316569945685:=0
def tw374792325028311701:=0
def tw9317889252075939509:=0
def tw2331575935842440981:=0
def tw14998631892655405909:=0
def tw16761108147785702261:=0
def tw17171806052997841845:=0
def tw13252210726763521973:=0
def tw11979102974397211637:=0
def tw1975598996700125366:=0
def tw8137640954543720822:=0
def tw9542687428776168854:=0
def tw13113524496203445654:=0
def tw4708149378046291414:=0
def tw8532421092579453430:=0
def tw9707447660259764822:=0
def tw1380193925003669110:=0
def tw2731454211078386326:=0
def tw6186839248100791990:=0
def tw10298996006158146262:=0
def tw233182507096910550:=0
def tw164482667718928118:=0
def tw2361660337386559254:=0
def tw8113852018046068566:=0
def tw13474370528791780375:=0
def tw12689844021493581943:=0
def tw7352182196967125175:=0
def tw17564284297141461175:=0
def tw17814371479972971735:=0
def tw16309522572126440727:=0
def tw1556318189960139063:=0
def tw6938010569630643575:=0
def tw1561576928332048791:=0
def tw12096789951081395671:=0
def tw17590710564819125719:=0
def tw15927752241973680599:=0
def tw2746353237506889303:=0
def tw2626843201799125623:=0
def tw494102673635772087:=0
def tw6950761890149079767:=0
def tw17182266843504254743:=0
def tw10783316126918090519:=0
def tw1517650649846184759:=0
def tw1100682585433234359:=0
def tw1251407774029719479:=0
def tw16955582283408324567:=0
def tw17120888349108314136:=0
def tw13887197378427187256:=0
def tw12118929474273253496:=0
def tw7724784132328202424:=0
def tw4423056023189925080:=0
def tw1189318453415935288:=0
def tw1901965002746230232:=0
def tw17655718601937457720:=0
def tw15431823504052558392:=0
def tw14661623182196019896:=0
def tw2497218516209912504:=0
def tw12889910291613537272:=0
def tw14219977752055265337:=0
def tw7109362260468072633:=0
def tw3769656620443128025:=0
def tw16150068229808796921:=0
def tw11229611327941711289:=0
def tw9838116081493477881:=0
def tw9418528733157582489:=0
def tw10341158211411747481:=0
def tw5120786312833734329:=0
def tw6258912441187775161:=0
def tw13315744113511878361:=0
def tw16552514246259817209:=0
def tw2033869730773112729:=0
def tw8580081014556037017:=0
def tw15524393913444954041:=0
def tw8128670920534007801:=0
def tw14134763055047947290:=0
def tw7519224978520051802:=0
def tw3184346317448427674:=0
def tw9368246200709844154:=0
def tw2928254630959871226:=0
def tw7420841019296039162:=0
def tw15463247426848361786:=0
def tw8033313560946455866:=0
def tw14331745926873478522:=0
def tw2174160665983924602:=0
def tw17767695367079460314:=0
def tw11421265095647436314:=0
def tw10095436417085667002:=0
def tw7810655660770838202:=0
def tw17560067089084578522:=0
def tw5744384519879991098:=0
def tw1025190170832836410:=0
def tw9064384937111512954:=0
def tw15426650760421778298:=0
def tw6550717891098057690:=0
def tw1687303958912329787:=0
def tw13710124563257531675:=0
def tw771997646025011483:=0
def tw10749190400131500347:=0
def tw7105597817958992347:=0
def tw4720828498140576219:=0
def tw10176689842685573627:=0
def tw8292304756832956923:=0
def tw7746153963900892699:=0
def tw8084085123069158971:=0
def tw3601151895182216891:=0
def tw10898763514221836059:=0
def tw16183411724948116251:=0
def tw6993434946748670907:=0
def tw1243432474312456252:=0
def tw4341791920212889660:=0
def tw8059859610456642652:=0
def tw14224982008183141532:=0
def tw4485040518230296732:=0
def tw9013129453279669404:=0
def tw7913321245284658332:=0
def tw3723994639800455356:=0
def tw2997774324655902940:=0
def tw3450053083855919356:=0
def tw5885103599679347068:=0
def tw11389401036066737532:=0
def tw17556936873898672540:=0
def tw80977726690194876:=0
def tw9937786133380535772:=0
def tw9373525406854510044:=0
def tw5151945121230241276:=0
def tw13834666435498520156:=0
def tw3277760044191595324:=0
def tw8235133099303978812:=0
def tw2197956828702412604:=0
def tw1795258525697368988:=0
def tw10666279391872063420:=0
def tw8435289552621972412:=0
def tw4658417400948337596:=0
def tw3639412083085054013:=0
def tw13266743606064258109:=0
def tw5287960545786729565:=0
def tw8256053176128771165:=0
def tw3495609354234654813:=0
def tw6806497132646462557:=0
def tw10037249915963852061:=0
def tw5541963979655845213:=0
def tw14114576730329821597:=0
def tw11049739093657976221:=0
def tw12584886686138053053:=0
def tw11339069944003530269:=0
def tw9058806198235065917:=0
def tw3186727412702494301:=0
def tw13278495868218132061:=0
def tw9134161140769811069:=0
def tw3114572925769805437:=0
def tw4532225844578097821:=0
def tw7685987731101760221:=0
def tw8717279309016846077:=0
def tw2169260164266214141:=0
def tw1315382514220908381:=0
def tw12506539379037687645:=0
def tw7016472262056401821:=0
def tw3830054589898788797:=0
def tw6170230579663515645:=0
def tw574832581792998430:=0
def tw12678278489036290078:=0
def tw18446140249825071166:=0
def tw17918965364319927422:=0
def tw9002334530203898270:=0
def tw15459330587076585886:=0
def tw10724117749635637726:=0
def tw4468062660412705310:=0
def tw130566274036326974:=0
def tw11485631978980701854:=0
def tw4634627792222290622:=0
def tw2526932429558300350:=0
def tw11871121419135962814:=0
def tw5733292465128176478:=0
def tw2522839900471538558:=0
def tw13906000018669397950:=0
def tw1471222096506692639:=0
def tw4510948802250219711:=0
def tw16189490160987954399:=0
def tw1982940028229859583:=0
def tw17070617648336963903:=0
def tw10581739202348368255:=0
def tw13700614373755084255:=0
def tw2939080600837881503:=0
def tw14957676111397857023:=0
def tw10213280444094198527:=0
def tw4219121722741553087:=0
def tw10704282411723738111:=0
def tw7922827948120259167:=0
end PySem.W.Fast
set_option Elab.async false
set_option linter.all false
set_option maxRecDepth 100000
namespace L2
open PySem PySem.Spec PyProof.Rows
abbrev Key:=Sum Int Str
def keyIs:Key→Value→Bool
 | .inl k,v=>Value.isInt k v
 | .inr x,v=>Value.isStrOf x v
def keyH (w:World):Key→Int
 | .inl k=>hashInt k
 | .inr x=>hashStr w x
theorem keyIs_shape:∀ {k:Key} {v:Value},keyIs k v=true→(∃ i t,k=Sum.inl i∧v=Value.int i t)∨(∃ x t,k=Sum.inr x∧v=Value.str x t)
 | .inl i,v,h=>by
  obtain ⟨t,e⟩:=Value.isInt_shape (k:=i) (v:=v) h
  exact .inl ⟨i,t,rfl,e⟩
 | .inr x,v,h=>by
  obtain ⟨t,e⟩:=Value.isStrOf_shape (x:=x) (v:=v) h
  exact .inr ⟨x,t,rfl,e⟩
theorem keyIs_int (i:Int) (t:Tok):keyIs (.inl i) (.int i t)=true:=by simp [keyIs,Value.isInt]
theorem keyIs_str (x:Str) (t:Tok):keyIs (.inr x) (.str x t)=true:=by simp [keyIs,Value.isStrOf]
theorem key_ll (a b:Int):decide ((Sum.inl a:Key)=Sum.inl b)=(a == b):=by
 by_cases e:a=b
 ·subst e;simp
 ·have h:¬ (Sum.inl a:Key)=Sum.inl b:=fun q=>e (Sum.inl.inj q)
  rw [decide_eq_false h]
  exact (beq_eq_false_iff_ne.mpr e).symm
theorem key_rr (a b:Str):decide ((Sum.inr a:Key)=Sum.inr b)=decide (a=b):=by
 by_cases e:a=b
 ·subst e;simp
 ·have h:¬ (Sum.inr a:Key)=Sum.inr b:=fun q=>e (Sum.inr.inj q)
  rw [decide_eq_false h,decide_eq_false e]
theorem key_lr (a:Int) (b:Str):decide ((Sum.inl a:Key)=Sum.inr b)=false:=decide_eq_false (fun q=>nomatch q)
theorem key_rl (a:Str) (b:Int):decide ((Sum.inr a:Key)=Sum.inl b)=false:=decide_eq_false (fun q=>nomatch q)
def mixKind (prog:Program) (w:World):PySem.KeyKind prog w Key where
 is:=keyIs
 hash:=keyH w
 inj:=fun v a b ha hb=>by
  rcases keyIs_shape ha with ⟨i,t,rfl,rfl⟩ | ⟨x,t,rfl,rfl⟩
  ·rcases keyIs_shape hb with ⟨j,u,rfl,e⟩ | ⟨y,u,rfl,e⟩
   ·injection e with e1 _;rw [e1]
   ·exact nomatch e
  ·rcases keyIs_shape hb with ⟨j,u,rfl,e⟩ | ⟨y,u,rfl,e⟩
   ·exact nomatch e
   ·injection e with e1 _;rw [e1]
 byValue:=fun k v h=>by
  rcases keyIs_shape h with ⟨i,t,rfl,rfl⟩ | ⟨x,t,rfl,rfl⟩ <;> rfl
 pyHash:=fun hv h=>by
  rcases keyIs_shape hv with ⟨i,t,rfl,rfl⟩ | ⟨x,t,rfl,rfl⟩
  ·exact wpAny_pyHash_int h
  ·exact wpAny_pyHash_str h
 eqBool:=fun hu hv h=>by
  rcases keyIs_shape hu with ⟨i,t,rfl,rfl⟩ | ⟨x,t,rfl,rfl⟩
  ·rcases keyIs_shape hv with ⟨j,u,rfl,rfl⟩ | ⟨y,u,rfl,rfl⟩
   ·rw [key_ll] at h;exact wpAny_eqBool_int h
   ·rw [key_lr] at h;exact SeqAt.EqAt.int_str i t y u _ _ _ _ h
  ·rcases keyIs_shape hv with ⟨j,u,rfl,rfl⟩ | ⟨y,u,rfl,rfl⟩
   ·rw [key_rl] at h;exact SeqAt.EqAt.str_int x t j u _ _ _ _ h
   ·rw [key_rr] at h;exact wpAny_eqBool_str h
 «strs»:=fun k x t v h=>by
  rcases keyIs_shape h with ⟨i,u,rfl,e⟩ | ⟨y,u,rfl,e⟩
  ·exact nomatch e
  ·injection e with e1 _
   subst e1
   cases v <;> rfl
theorem mixKind_int (prog:Program) (w:World) (i:Int) (t:Tok):(mixKind prog w).is (.inl i) (.int i t)=true:=keyIs_int i t
theorem mixKind_str (prog:Program) (w:World) (x:Str) (t:Tok):(mixKind prog w).is (.inr x) (.str x t)=true:=keyIs_str x t
end L2
namespace L2
open PySem PySem.Spec PyProof.Rows
inductive V where
 | non | bl (b:Bool) | int (i:Int) | str (x:Str) | byt (b:Array UInt8) | flt (b:UInt64) | ref (a:Addr) | ty (n:String)
 deriving DecidableEq
def RelV:V→Value→Prop
 | .non,u=>u=Value.none
 | .bl b,u=>u=Value.bool b
 | .int i,u=>∃ t,u=Value.int i t
 | .str x,u=>∃ t,u=Value.str x t
 | .byt b,u=>∃ t,u=Value.bytes b t
 | .flt b,u=>∃ t,u=Value.float b t
 | .ref a,u=>u=Value.ref a
 | .ty n,u=>u=Value.type n
abbrev Vals:List V→List Value→Prop:=Paired RelV
theorem Vals.length {xs:List V} {us:List Value} (r:Vals xs us):xs.length=us.length:=Paired.length r
theorem Vals.get:∀ {xs:List V} {us:List Value} {i:Nat} {x:V},Vals xs us→xs[i]?=some x→∃ u,us[i]?=some u∧RelV x u
 | _,_,_,_,.nil,e=>by simp at e
 | _,_,0,_,.cons r _,e=>by simp at e;subst e;exact ⟨_,rfl,r⟩
 | _,_,i + 1,x,.cons _ t,e=>by
  obtain ⟨u,h1,h2⟩:=Vals.get (i:=i) (x:=x) t (by simpa using e)
  exact ⟨u,by simpa using h1,h2⟩
theorem Vals.set {x:V} {u:Value} (r:RelV x u):∀ {xs:List V} {us:List Value} (i:Nat),Vals xs us→Vals (xs.set i x) (us.set i u)
 | _,_,_,.nil=>.nil
 | _,_,0,.cons _ t=>.cons r t
 | _,_,i + 1,.cons q t=>.cons q (Vals.set r i t)
theorem Vals.append:∀ {xs ys:List V} {us ws:List Value},Vals xs us→Vals ys ws→Vals (xs ++ ys) (us ++ ws)
 | _,_,_,_,.nil,s=>s
 | _,_,_,_,.cons r t,s=>.cons r (Vals.append t s)
theorem Vals.take:∀ {xs:List V} {us:List Value} (n:Nat),Vals xs us→Vals (xs.take n) (us.take n)
 | _,_,0,_=>.nil
 | _,_,_ + 1,.nil=>.nil
 | _,_,n + 1,.cons r t=>.cons r (Vals.take n t)
theorem Vals.drop:∀ {xs:List V} {us:List Value} (n:Nat),Vals xs us→Vals (xs.drop n) (us.drop n)
 | _,_,0,r=>r
 | _,_,_ + 1,.nil=>.nil
 | _,_,n + 1,.cons _ t=>Vals.drop n t
theorem Vals.none_of:∀ {xs:List V} {us:List Value} {i:Nat},Vals xs us→xs[i]?=none→us[i]?=none:=fun {xs us i} r e=>by
 have h1:=r.length
 have h2:xs.length≤i:=List.getElem?_eq_none_iff.mp e
 exact List.getElem?_eq_none_iff.mpr (by omega)
def RelO:Option V→Option Value→Prop
 | some v,some u=>RelV v u
 | none,none=>True
 | _,_=>False
def KV {κ:Type}:List (κ × V)→List (κ × Value)→Prop:=Paired fun (p:κ × V) (q:κ × Value)=>p.1=q.1∧RelV p.2 q.2
def kV:Key→V
 | .inl i=>.int i
 | .inr x=>.str x
inductive HO where
  | lst (xs:List V)
  | tup (xs:List V)
  | dK (kvs:List (Key × V)) | dT (kvs:List (List Key × V))
  | set (S:Int→Bool) (n:Nat)
  | ins (C dx:Addr) (fs:List (Str × V))
  | own (x:Addr)
  | xd (fs:List (Str × V))
  | met (f x:Addr)
  | rng (lo hi:Int)
  | frz (o:Obj) (u:HO)
  | tbl (ps:Array Value)
  | ext (φ:Heap→Prop)
abbrev Hp:=Addr→Option HO
def upd (H:Hp) (a:Addr) (o:HO):Hp:=fun b=>if b=a then some o else H b
theorem upd_same {H:Hp} {a:Addr} {o:HO}:upd H a o a=some o:=by unfold upd;rw [if_pos rfl]
theorem upd_ne {H:Hp} {a b:Addr} {o:HO} (h:b≠a):upd H a o b=H b:=by unfold upd;rw [if_neg h]
theorem upd_upd {H:Hp} {a:Addr} {o u:HO}:upd (upd H a o) a u=upd H a u:=by
 funext b;unfold upd;split <;> rfl
theorem ne_of_none {H:Hp} {a b:Addr} {o:HO} (h:H a=some o) (h':H b=none):a≠b:=by
 intro e;subst e;rw [h] at h';cases h'
section
variable (P:Program) (w:World)
def ObjOk (H:Hp) (h:Heap) (a:Addr):HO→Prop
 | .lst xs=>xs.length≤sizeLine∧∃ (its:List Value) (n:Nat),Vals xs its∧h.get? a=some { cls:=.type "list",data:=.seq its.toArray n }
 | .tup xs=>xs.length≤sizeLine∧∃ its:List Value,Vals xs its∧IsTup h a its.toArray
 | .dK kvs=>kvs.length≤sizeLine∧(a == sysModules)=false∧∃ vs,KV kvs vs∧h.DictOf (mixKind P w) a vs
 | .dT kvs=>kvs.length≤sizeLine∧(a == sysModules)=false∧∃ xs:List (List Key × Addr × Value),
   Paired (fun (p:List Key × V) (q:List Key × Addr × Value)=>p.1=q.1∧H q.2.1=some (.tup (p.1.map kV))∧RelV p.2 q.2.2) kvs xs ∧
   ∃ o es ep,h.get? a=some o∧o.ExactDict∧o.data=.dict es ep∧es.toList=xs.map (entryOfKey (tupleKind (mixKind P w)))∧(xs.map (·.1)).Nodup
 | .set S n=>h.SetOf (intKind P w) a S n
 | .ins C dx fs=>H dx=some (.own a)∧fs.length≤1000∧dx≠a∧h.get? a=some (PySem.W.instObj C dx) ∧
   ∃ mA,h.Ns1 dx mA∧(∀ f,RelO (fs.lookup f) (mA f))∧PySem.Within mA (fs.map (·.1))
 | .own _=>∃ o,h.get? a=some o
 | .xd fs=>∃ mA,h.Ns1 a mA∧∀ f,RelO (fs.lookup f) (mA f)
 | .rng lo hi=>∃ t u v,h.get? a=some { cls:=.type "range",data:=.fields #[.int lo t,.int hi u,.int 1 v] }
 | .frz o u=>h.get? a=some o∧ObjOk H h a u
 | .tbl ps=>h.get? a=some { cls:=.none,data:=.fields ps }
 | .met f x=>h.get? a=some (PySem.W.methodObj (.ref f) (.ref x))
 | .ext φ=>φ h∧(∃ o,h.get? a=some o)∧∀ h1 h2:Heap,φ h1→(∀ o,h1.get? a=some o→h2.get? a=some o)→φ h2
def HOk (H:Hp) (h:Heap):Prop:=∀ a o,H a=some o→ObjOk P w H h a o
end
section
variable {P:Program} {w:World} {H H':Hp} {h h':Heap} {a:Addr} {o:HO}
theorem ObjOk.lt (x:ObjOk P w H h a o):a < h.objs.size:=by
 cases o with
 | lst xs=>obtain ⟨_,_,_,_,e⟩:=x;exact Heap.lt_size e
 | tup xs=>obtain ⟨_,_,_,p⟩:=x;exact p.lt
 | dK kvs=>obtain ⟨_,_,_,_,o,_,_,e,_⟩:=x;exact Heap.lt_size e
 | dT kvs=>obtain ⟨_,_,_,_,o,_,_,e,_⟩:=x;exact Heap.lt_size e
 | set S n=>obtain ⟨o,_,_,_,e,_⟩:=x;exact Heap.lt_size e
 | ins C dx fs=>obtain ⟨_,_,_,e,_⟩:=x;exact Heap.lt_size e
 | own y=>obtain ⟨_,e⟩:=x;exact Heap.lt_size e
 | xd fs=>obtain ⟨_,⟨_,_,_,e,_⟩,_⟩:=x;exact Heap.lt_size e
 | rng lo hi=>obtain ⟨_,_,_,e⟩:=x;exact Heap.lt_size e
 | frz ob u=>obtain ⟨e,_⟩:=x;exact Heap.lt_size e
 | tbl ps=>exact Heap.lt_size (show h.get? a=some _ from x)
 | met f y=>exact Heap.lt_size (show h.get? a=some _ from x)
 | ext φ=>obtain ⟨_,⟨_,e⟩,_⟩:=x;exact Heap.lt_size e
theorem Paired.mapP {α β:Type} {F G:α→β→Prop}:∀ {l₁:List α} {l₂:List β},Paired F l₁ l₂→(∀ a b,F a b→G a b)→Paired G l₁ l₂
 | _,_,.nil,_=>.nil
 | _,_,.cons r t,f=>.cons (f _ _ r) (Paired.mapP t f)
theorem ObjOk.stay (x:ObjOk P w H h a o) (k:∀ b u,(b=a∨H b=some (.own a))→h.get? b=some u→h'.get? b=some u)
  (ho:∀ b,H b=some (.own a)→H' b=some (.own a)) (ht:∀ b xs,H b=some (.tup xs)→H' b=some (.tup xs)):ObjOk P w H' h' a o:=by
 induction o with
 | lst xs=>obtain ⟨z,its,n,r,e⟩:=x;exact ⟨z,its,n,r,k _ _ (.inl rfl) e⟩
 | tup xs=>obtain ⟨z,its,r,ob,e,c⟩:=x;exact ⟨z,its,r,ob,k _ _ (.inl rfl) e,c⟩
 | dK kvs=>obtain ⟨z,y,vs,r,ob,es,ep,e,c⟩:=x;exact ⟨z,y,vs,r,ob,es,ep,k _ _ (.inl rfl) e,c⟩
 | dT kvs=>
  obtain ⟨z,y,xs,r,ob,es,ep,e,c⟩:=x
  exact ⟨z,y,xs,Paired.mapP r fun p q z=>⟨z.1,ht _ _ z.2.1,z.2.2⟩,ob,es,ep,k _ _ (.inl rfl) e,c⟩
 | set S n=>obtain ⟨ob,es,ep,t,e,c⟩:=x;exact ⟨ob,es,ep,t,k _ _ (.inl rfl) e,c⟩
 | ins C dx fs=>
  obtain ⟨d,z,ne,e,mA,⟨od,es,ep,e2,c⟩,r⟩:=x
  exact ⟨ho _ d,z,ne,k _ _ (.inl rfl) e,mA,⟨od,es,ep,k _ _ (.inr d) e2,c⟩,r⟩
 | own y=>obtain ⟨ob,e⟩:=x;exact ⟨ob,k _ _ (.inl rfl) e⟩
 | xd fs=>obtain ⟨mA,⟨od,es,ep,e,c⟩,r⟩:=x;exact ⟨mA,⟨od,es,ep,k _ _ (.inl rfl) e,c⟩,r⟩
 | rng lo hi=>obtain ⟨t,u,v,e⟩:=x;exact ⟨t,u,v,k _ _ (.inl rfl) e⟩
 | frz ob u ih=>obtain ⟨e,q⟩:=x;exact ⟨k _ _ (.inl rfl) e,ih q⟩
 | tbl ps=>
  have e:h.get? a=some { cls:=.none,data:=.fields ps }:=x
  show h'.get? a=some { cls:=.none,data:=.fields ps }
  exact k a _ (.inl rfl) e
 | met f y=>
  have e:h.get? a=some (PySem.W.methodObj (.ref f) (.ref y)):=x
  show h'.get? a=some (PySem.W.methodObj (.ref f) (.ref y))
  exact k a _ (.inl rfl) e
 | ext φ=>obtain ⟨p,⟨o,e⟩,st⟩:=x;exact ⟨st _ _ p fun o q=>k _ _ (.inl rfl) q,⟨o,k _ _ (.inl rfl) e⟩,st⟩
theorem HOk.lt (x:HOk P w H h) (e:H a=some o):a < h.objs.size:=(x a o e).lt
theorem HOk.fresh (x:HOk P w H h) (e:h.objs.size≤a):H a=none:=by
 cases q:H a with
 | none=>rfl
 | some u=>exact absurd (Nat.lt_of_lt_of_le (x.lt q) e) (Nat.lt_irrefl _)
theorem HOk.kept (x:HOk P w H h) (k:∀ b u,h.get? b=some u→h'.get? b=some u):HOk P w H h':=fun a o e=>
 (x a o e).stay (fun b u _ q=>k b u q) (fun _ q=>q) fun _ _ q=>q
theorem HOk.laid (x:HOk P w H h) (k:∀ b u,h.get? b=some u→h'.get? b=some u) (hp:h.objs.size≤a) (new:ObjOk P w (upd H a o) h' a o):HOk P w (upd H a o) h':=fun b u e=>by
 have hn:=x.fresh hp
 by_cases hb:b=a
 ·subst hb;rw [upd_same] at e;cases e;exact new
 ·rw [upd_ne hb] at e
  exact (x b u e).stay (fun c v _ q=>k c v q) (fun c q=>by rw [upd_ne (ne_of_none q hn)];exact q) fun c xs q=>by rw [upd_ne (ne_of_none q hn)];exact q
end
def Rd (H:Hp) (a:Addr) (u:HO):Prop:=H a=some u∨∃ o,H a=some (.frz o u)
theorem Rd.of {H:Hp} {a:Addr} {u:HO} (h:H a=some u):Rd H a u:=.inl h
theorem Rd.ok {P:Program} {w:World} {H:Hp} {h:Heap} {a:Addr} {u:HO} (r:Rd H a u) (x:HOk P w H h):ObjOk P w H h a u:=by
 rcases r with r | ⟨o,r⟩
 ·exact x a u r
 ·obtain ⟨_,q⟩:=x a _ r
  exact q
def Mut:Option HO→Prop
 | some (.lst _)=>True
 | some (.dK _)=>True
 | some (.dT _)=>True
 | some (.set _ _)=>True
 | some (.ins _ _ _)=>True
 | some (.ext _)=>True
 | _=>False
section
variable {P:Program} {w:World} {H:Hp} {h h':Heap} {x e:Addr} {o':HO}
theorem HOk.write (ok:HOk P w H h) (mu:Mut (H x)) (he:e=x∨H e=some (.own x)) (k:∀ b u,b≠e→h.get? b=some u→h'.get? b=some u) (heo:∃ u,h'.get? e=some u)
  (new:ObjOk P w (upd H x o') h' x o'):HOk P w (upd H x o') h':=fun b u q=>by
 have nown:∀ c y,H c=some (.own y)→c≠x:=fun c y r z=>by subst z;rw [r] at mu;exact mu
 have ntup:∀ c xs,H c=some (.tup xs)→c≠x:=fun c xs r z=>by subst z;rw [r] at mu;exact mu
 by_cases hb:b=x
 ·subst hb;rw [upd_same] at q;cases q;exact new
 ·rw [upd_ne hb] at q
  by_cases hbe:b=e
  ·have q':H b=some (.own x):=by
    rcases he with z | z
    ·exact absurd (hbe.trans z) hb
    ·rw [hbe];exact z
   rw [q] at q';cases q'
   obtain ⟨v,hv⟩:=heo
   exact ⟨v,by rw [hbe];exact hv⟩
  ·refine (ok b u q).stay (fun c v hc r=>k c v ?_ r) (fun c r=>by rw [upd_ne (nown c b r)];exact r) fun c xs r=>by rw [upd_ne (ntup c xs r)];exact r
   rcases hc with rfl | hc
   ·exact hbe
   ·rintro rfl
    rcases he with z | z
    ·exact nown c b hc z
    ·rw [hc] at z;cases z;exact hb rfl
end
structure Un (fs ex:List Addr) (H H':Hp) (h h':Heap):Prop where
 keep:∀ b o,h.get? b=some o→H b=none→b ∉ fs→b ∉ ex→h'.get? b=some o
 slot:∀ b o,h.get? b=some o→H b=none→b∈fs→b ∉ ex→∃ sl,h'.get? b=some { o with slots:=sl }
 free:∀ b o,h.get? b=some o→H b=none→b ∉ ex→H' b=none
 there:∀ b o,h.get? b=some o→b ∉ ex→∃ o',h'.get? b=some o'
 tups:∀ b xs,H b=some (.tup xs)→H' b=some (.tup xs)
 frzs:∀ b o u,H b=some (.frz o u)→H' b=some (.frz o u)
 tbls:∀ b ps,H b=some (.tbl ps)→∃ more,H' b=some (.tbl (ps ++ more))
section
variable {fs fs' ex ex':List Addr} {H H1 H2:Hp} {h h1 h2 h':Heap} {a x e:Addr} {o:HO}
theorem Un.any (u:Un fs ex H H1 h h1) {b:Addr} {ob:Obj} (q:h.get? b=some ob) (n:H b=none) (hx:b ∉ ex):∃ sl,h1.get? b=some { ob with slots:=sl }:=by
 by_cases hb:b∈fs
 ·exact u.slot b ob q n hb hx
 ·exact ⟨ob.slots,u.keep b ob q n hb hx⟩
theorem Un.trans (a:Un fs ex H H1 h h1) (b:Un fs ex H1 H2 h1 h2):Un fs ex H H2 h h2 where
 keep:=fun c ob q n hc hx=>b.keep c ob (a.keep c ob q n hc hx) (a.free c ob q n hx) hc hx
 slot:=fun c ob q n hc hx=>by
  obtain ⟨sl,e1⟩:=a.slot c ob q n hc hx
  obtain ⟨sl',e2⟩:=b.slot c _ e1 (a.free c ob q n hx) hc hx
  exact ⟨sl',e2⟩
 free:=fun c ob q n hx=>by
  obtain ⟨o',e1⟩:=a.there c ob q hx
  exact b.free c o' e1 (a.free c ob q n hx) hx
 there:=fun c ob q hx=>by
  obtain ⟨o',e1⟩:=a.there c ob q hx
  exact b.there c o' e1 hx
 tups:=fun c xs q=>b.tups c xs (a.tups c xs q)
 frzs:=fun c ob xs q=>b.frzs c ob xs (a.frzs c ob xs q)
 tbls:=fun c ps q=>by
  obtain ⟨m1,e1⟩:=a.tbls c ps q
  obtain ⟨m2,e2⟩:=b.tbls c _ e1
  exact ⟨m1 ++ m2,by rw [e2,Array.append_assoc]⟩
theorem Un.kept (k:∀ b u,h.get? b=some u→h'.get? b=some u):Un fs ex H H h h':=
 ⟨fun b ob q _ _ _=>k b ob q,fun b ob q _ _ _=>⟨ob.slots,k b ob q⟩,fun _ _ _ n _=>n,fun b ob q _=>⟨ob,k b ob q⟩,fun _ _ q=>q,fun _ _ _ q=>q,fun _ ps q=>⟨#[],by rw [q];simp⟩⟩
theorem Un.refl:Un fs ex H H h h:=Un.kept fun _ _ q=>q
theorem Un.laid (k:∀ b u,h.get? b=some u→h'.get? b=some u) (hp:h.objs.size≤a) (hn:H a=none):Un fs ex H (upd H a o) h h' where
 keep:=fun b u q _ _ _=>k b u q
 slot:=fun b u q _ _ _=>⟨u.slots,k b u q⟩
 free:=fun b u q n _=>by rw [upd_ne (Nat.ne_of_lt (Nat.lt_of_lt_of_le (Heap.lt_size q) hp))];exact n
 there:=fun b u q _=>⟨u,k b u q⟩
 tups:=fun b xs q=>by rw [upd_ne (ne_of_none q hn)];exact q
 frzs:=fun b u xs q=>by rw [upd_ne (ne_of_none q hn)];exact q
 tbls:=fun b ps q=>⟨#[],by rw [upd_ne (ne_of_none q hn),q];simp⟩
theorem Un.write (mu:Mut (H x)) (he:e=x∨H e=some (.own x)) (k:∀ b u,b≠e→h.get? b=some u→h'.get? b=some u) (heo:∃ u,h'.get? e=some u):Un fs ex H (upd H x o) h h':=by
 have hx:∀ b,H b=none→b≠x:=fun b n z=>by subst z;rw [n] at mu;exact mu
 have hb:∀ b,H b=none→b≠e:=fun b n z=>by
  subst z
  rcases he with r | r
  ·exact hx b n r
  ·rw [n] at r;cases r
 have hm:∀ b u,H b=some u→¬ Mut (some u)→b≠x:=fun b u q nm z=>by subst z;rw [q] at mu;exact nm mu
 refine ⟨fun b u q n _ _=>k b u (hb b n) q,fun b u q n _ _=>⟨u.slots,k b u (hb b n) q⟩,fun b u q n _=>by rw [upd_ne (hx b n)];exact n,fun b u q _=>?_,
  fun b xs q=>by rw [upd_ne (hm b _ q fun z=>z)];exact q,fun b u xs q=>by rw [upd_ne (hm b _ q fun z=>z)];exact q,fun b ps q=>⟨#[],by rw [upd_ne (hm b _ q fun z=>z),q];simp⟩⟩
 by_cases hbe:b=e
 ·subst hbe;exact heo
 ·exact ⟨u,k b u hbe q⟩
theorem Un.mono (u:Un fs ex H H1 h h1) (hs:∀ b∈fs,b∈fs') (hx:∀ b∈ex,b∈ex'):Un fs' ex' H H1 h h1:=
 ⟨fun b ob q n hb he=>u.keep b ob q n (fun z=>hb (hs b z)) fun z=>he (hx b z),fun _ _ q n _ he=>u.any q n fun z=>he (hx _ z),fun b ob q n he=>u.free b ob q n fun z=>he (hx b z),fun b ob q he=>u.there b ob q fun z=>he (hx b z),u.tups,u.frzs,u.tbls⟩
end
def trk (h:Heap) (H:Hp):List Addr:=(List.range h.objs.size).filter fun a=>(H a).isSome
def hidT (h:Heap) (H:Hp):Heap:=PySem.W.hideAll h (trk h H)
theorem hidT_size (h:Heap) (H:Hp):(hidT h H).objs.size=h.objs.size:=PySem.W.hideAll_size _ _
theorem hidT_get {h:Heap} {H:Hp} {b:Addr} {o:Obj} (e:h.get? b=some o) (n:H b=none):(hidT h H).get? b=some o:=
 PySem.W.hideAll_get _ e fun hm=>by
  have q:(H b).isSome=true:=(List.mem_filter.mp hm).2
  rw [n] at q;simp at q
theorem of_hidT {h:Heap} {H:Hp} {b:Addr} {o:Obj} (e:(hidT h H).get? b=some o):h.get? b=some o∧H b=none:=by
 have e':h.get? b=some o:=PySem.W.of_hideAll (trk h H) e
 refine ⟨e',?_⟩
 cases q:H b with
 | none=>rfl
 | some x=>
  have hm:b∈trk h H:=List.mem_filter.mpr ⟨List.mem_range.mpr (Heap.lt_size e'),by simp [q]⟩
  have z:(hidT h H).get? b=none:=PySem.W.hideAll_none (trk h H) hm
  rw [z] at e;cases e
def allNews (g h:Heap) (L:Addr):List (Addr × Obj):=(List.range h.objs.size).filterMap fun a=>if a=L∨(g.get? a).isSome=true then none else (h.get? a).map fun o=>(a,o)
def rest (g h:Heap) (L d:Addr):List (Addr × Obj):=(allNews g h L).filter fun p=>decide (p.1≠d)
end L2
namespace L2
open PySem PySem.Spec PyProof.Rows
structure Mod (K:PySem.W.Frag) (mg:Str→Option Value) (base:Heap):Prop where
 kin:K.In base
 glob:base.Ns mainGlobals mg
 blt:∃ mb,base.Ns builtinsNs mb∧∀ x:Str,x≠"__name__"→mb x=bootBuiltins x
 nolimit:base.NoLimit
structure Cx where
 prog:Program
 w:World
 K:PySem.W.Frag
 mg:Str→Option Value
 base:Heap
 A:Around
 N:List Str
 s₀:Shared
 H₀:Hp
 env:Env
 outer:List Env
 stack:List Env
 ex:List Addr
 fn:Str→Bool
 calm:Bool
 pn:List (Addr × Obj)
 xe:Value→Shared→Prop
def frs (l:List Env):List Addr:=l.filterMap (·.frame)
abbrev Cx.fs (X:Cx):List Addr:=frs X.outer
def Vis (sc:Scope) (x:Str):Prop:=sc.names.lookup x=some .local∨sc.names.lookup x=some .cell∨sc.names.lookup x=some .free
def Loc (sc:Scope) (x:Str):Prop:=sc.names.lookup x=some .local∨sc.names.lookup x=some .cell
def Look (env:Env) (h:Heap) (m:Str→Option Value) (x:Str) (u:Value):Prop:=
 (env.kindOf x=some .local∧m x=some u)∨((env.kindOf x=some .cell∨env.kindOf x=some .free)∧∃ c,env.cells.lookup x=some c∧h.IsCell c (some u))
structure Cx.Ok (X:Cx):Prop where
 mod:Mod X.K X.mg X.base
 kind:X.env.scope.kind=.function
 glob:X.env.globals=mainGlobals
 blt:X.env.builtins=builtinsNs
 above:X.s₀.heap.objs.size≤X.env.locals
 inj:∀ x y c,X.env.cells.lookup x=some c→X.env.cells.lookup y=some c→x=y
 has:∀ x,(X.env.kindOf x=some .cell∨X.env.kindOf x=some .free)→∃ c,X.env.cells.lookup x=some c
 cab:∀ x c,X.fn x=true→X.env.cells.lookup x=some c→X.s₀.heap.objs.size≤c
 hd:X.calm=true→X.A.handled=none
 frames:X.A.frames=some X.stack
 stk:X.stack=X.outer∨(X.stack=X.env :: X.outer∧X.env.frame=some X.env.locals)
 exf:∀ b∈X.ex,b≠X.env.locals∧∀ x c,X.env.cells.lookup x=some c→c≠b
 bs:∀ b o,X.base.get? b=some o→X.s₀.heap.get? b=some o∧X.H₀ b=none
 bsz:X.base.objs.size≤X.s₀.heap.objs.size
 noex:∀ b o,X.base.get? b=some o→b ∉ X.ex
 exfs:∀ b∈X.ex,b ∉ X.fs
 funs:X.s₀.heap.FunFrames X.base X.outer
 frf:∀ b∈X.fs,X.H₀ b=none
structure Inv (X:Cx) (pins:List (Addr × Obj)) (σ:List (Option V)) (H:Hp) (s:Shared):Prop where
 ok:X.Ok
 os:s.os=X.s₀.os
 bare:AllBare s.gens
 base:Un X.fs X.ex X.H₀ H X.s₀.heap s.heap
 loc:∃ m,s.heap.Ns X.env.locals m∧∀ (i:Nat) (x:Str) (v:V),X.N[i]?=some x→σ[i]?=some (some v)→Vis X.env.scope x→∃ u,RelV v u∧Look X.env s.heap m x u
 cell:∀ x c,X.env.cells.lookup x=some c→∃ v,s.heap.IsCell c v
 free:H X.env.locals=none
 freeC:∀ x c,X.env.cells.lookup x=some c→H c=none
 pin:∀ p∈X.pn ++ pins,s.heap.get? p.1=some p.2∧H p.1=none∧p.1≠X.env.locals∧p.1 ∉ X.fs∧∀ v,p.2.data≠.cell v
 hok:HOk X.prog X.w H s.heap
 len:σ.length=X.N.length
section
variable {X:Cx} {pins:List (Addr × Obj)} {σ:List (Option V)} {H H':Hp} {s:Shared} {h':Heap}
theorem Cx.Ok.nofr (ok:X.Ok) {b:Addr} {o:Obj} (e:X.base.get? b=some o):b ∉ X.fs:=fun hb=>by
 have:=(ok.funs.mem hb).1
 rw [e] at this;cases this
theorem Inv.bs (I:Inv X pins σ H s):∀ b o,X.base.get? b=some o→s.heap.get? b=some o∧H b=none:=fun b o e=>
 ⟨I.base.keep b o (I.ok.bs b o e).1 (I.ok.bs b o e).2 (I.ok.nofr e) (I.ok.noex b o e),I.base.free b o (I.ok.bs b o e).1 (I.ok.bs b o e).2 (I.ok.noex b o e)⟩
theorem Inv.bk (I:Inv X pins σ H s):∀ b o,X.base.get? b=some o→s.heap.get? b=some o:=fun b o e=>(I.bs b o e).1
theorem Inv.mod (I:Inv X pins σ H s):Mod X.K X.mg X.base:=I.ok.mod
theorem Inv.kIn (I:Inv X pins σ H s):X.K.In s.heap:=I.ok.mod.kin.keeps I.bk
theorem Inv.nolimit (I:Inv X pins σ H s):s.heap.NoLimit:=I.ok.mod.nolimit.keeps I.bk
theorem Inv.fr (I:Inv X pins σ H s):∃ m,Fr X.base X.env.locals s.heap m:=
 let ⟨m,hn,_⟩:=I.loc
 ⟨m,hn,I.bk,Nat.le_trans I.ok.bsz I.ok.above⟩
theorem Inv.lt (I:Inv X pins σ H s):X.env.locals < s.heap.objs.size:=let ⟨_,hn,_⟩:=I.loc;hn.lt
theorem Inv.sz (I:Inv X pins σ H s):X.s₀.heap.objs.size≤s.heap.objs.size:=Nat.le_trans I.ok.above (Nat.le_of_lt I.lt)
theorem Inv.nofs (I:Inv X pins σ H s) {a:Addr} (h:s.heap.objs.size≤a):a ∉ X.fs:=fun hb=>by
 obtain ⟨_,o,ho,_⟩:=I.ok.funs.mem hb
 exact absurd (Nat.lt_of_lt_of_le (Heap.lt_size ho) (Nat.le_trans I.sz h)) (Nat.lt_irrefl _)
theorem Inv.cne (I:Inv X pins σ H s):∀ x c,X.env.cells.lookup x=some c→c≠X.env.locals:=fun x c e z=>by
 obtain ⟨v,o,ho,hd⟩:=I.cell x c e
 obtain ⟨m,⟨o',es,ep,ho',hd',_⟩,_⟩:=I.loc
 rw [z,ho'] at ho;cases ho;rw [hd'] at hd;cases hd
theorem Inv.funs (I:Inv X pins σ H s):s.heap.FunFrames X.base X.outer:=by
 have all:∀ (l:List Env),(∀ b∈frs l,b∈X.fs)→X.s₀.heap.FunFrames X.base l→s.heap.FunFrames X.base l:=by
  intro l
  induction l with
  | nil=>intro _ _;trivial
  | cons env r ih=>
   intro hs hl
   obtain ⟨hk,⟨L,o,hf,hn,ho,hd⟩,hr⟩:=hl
   have hL:L∈X.fs:=hs L (by unfold frs;rw [List.filterMap_cons,hf];exact List.mem_cons_self)
   obtain ⟨sl,e⟩:=I.base.slot L o ho (I.ok.frf L hL) hL fun z=>I.ok.exfs L z hL
   exact ⟨hk,⟨L,_,hf,hn,e,hd⟩,ih (fun b hb=>hs b (by unfold frs;rw [List.filterMap_cons,hf];exact List.mem_cons_of_mem _ hb)) hr⟩
 exact all X.outer (fun _ hb=>hb) I.ok.funs
theorem Inv.stack (I:Inv X pins σ H s):s.heap.FunFrames X.base X.stack:=by
 rcases I.ok.stk with e | ⟨e,hf⟩
 ·rw [e];exact I.funs
 ·rw [e]
  obtain ⟨m,hn,_⟩:=I.loc
  refine .cons (by rw [I.ok.kind];decide) hf hn ?_ I.funs
  exact Heap.get?_none_of_le (Nat.le_trans I.ok.bsz I.ok.above)
theorem Inv.stkSub (I:Inv X pins σ H s):∀ b∈frs X.stack,b∈X.env.locals :: X.fs:=fun b hb=>by
 rcases I.ok.stk with e | ⟨e,hf⟩
 ·rw [e] at hb;exact List.mem_cons_of_mem _ hb
 ·rw [e] at hb
  unfold frs at hb
  rw [List.filterMap_cons,hf] at hb
  exact hb
theorem Inv.stkFree (I:Inv X pins σ H s):∀ b∈frs X.stack,H b=none:=fun b hb=>by
 rcases List.mem_cons.mp (I.stkSub b hb) with e | hb
 ·rw [e];exact I.free
 ·obtain ⟨_,o,ho,_⟩:=I.ok.funs.mem hb
  exact I.base.free b o ho (I.ok.frf b hb) fun z=>I.ok.exfs b z hb
theorem Inv.step {g':Array GenState} {t':Nat} {d':Drawn} {ch:List Addr} (I:Inv X pins σ H s)
  (hch:∀ b∈ch,(b∈X.ex∨X.s₀.heap.objs.size≤b)∧b≠X.env.locals∧(∀ x c,X.env.cells.lookup x=some c→c≠b)∧∀ p∈X.pn ++ pins,p.1≠b)
  (keep:∀ b o,b≠X.env.locals→b ∉ X.fs→b ∉ ch→s.heap.get? b=some o→H b=none→h'.get? b=some o)
  (slot:∀ b o,b≠X.env.locals→b∈X.fs→b ∉ ch→s.heap.get? b=some o→H b=none→∃ sl,h'.get? b=some { o with slots:=sl }) (free:∀ b o,b ∉ ch→s.heap.get? b=some o→H b=none→H' b=none)
  (there:∀ b o,b ∉ ch→s.heap.get? b=some o→∃ o',h'.get? b=some o')
  (tups:∀ b xs,H b=some (.tup xs)→H' b=some (.tup xs)) (frzs:∀ b o u,H b=some (.frz o u)→H' b=some (.frz o u)) (tbls:∀ b ps,H b=some (.tbl ps)→∃ more,H' b=some (.tbl (ps ++ more)))
  (ns:∀ m,s.heap.Ns X.env.locals m→h'.Ns X.env.locals m) (hok:HOk X.prog X.w H' h') (hg:AllBare g') :
  Inv X pins σ H' { s with heap:=h',gens:=g',drawn:=d',toks:=t' }:=by
 have neL:∀ b o,X.s₀.heap.get? b=some o→b≠X.env.locals:=fun b o e=>Nat.ne_of_lt (Nat.lt_of_lt_of_le (Heap.lt_size e) I.ok.above)
 have neC:∀ b o,X.s₀.heap.get? b=some o→b ∉ X.ex→b ∉ ch:=fun b o e hx hb=>by
  rcases (hch b hb).1 with z | z
  ·exact hx z
  ·exact absurd (Nat.lt_of_lt_of_le (Heap.lt_size e) z) (Nat.lt_irrefl _)
 have cellK:∀ x c,X.env.cells.lookup x=some c→∀ v,s.heap.IsCell c v→h'.IsCell c v:=fun x c e v ⟨o,ho,hd⟩=>by
  have nch:c ∉ ch:=fun z=>(hch c z).2.2.1 x c e rfl
  by_cases hc:c∈X.fs
  ·obtain ⟨sl,q⟩:=slot c o (I.cne x c e) hc nch ho (I.freeC x c e)
   exact ⟨_,q,hd⟩
  ·exact ⟨o,keep c o (I.cne x c e) hc nch ho (I.freeC x c e),hd⟩
 refine ⟨I.ok,I.os,hg,⟨fun b o e n hb hx=>?_,fun b o e n hb hx=>?_,fun b o e n hx=>?_,fun b o e hx=>?_,fun b xs e=>tups b xs (I.base.tups b xs e),fun b o xs e=>frzs b o xs (I.base.frzs b o xs e),fun b ps e=>?_⟩,?_,fun x c e=>?_,?_,fun x c e=>?_,fun p hp=>?_,hok,I.len⟩
 ·exact keep b o (neL b o e) hb (neC b o e hx) (I.base.keep b o e n hb hx) (I.base.free b o e n hx)
 ·obtain ⟨sl,e1⟩:=I.base.slot b o e n hb hx
  obtain ⟨sl',e2⟩:=slot b _ (neL b o e) hb (neC b o e hx) e1 (I.base.free b o e n hx)
  exact ⟨sl',e2⟩
 ·obtain ⟨o',e1⟩:=I.base.there b o e hx
  exact free b o' (neC b o e hx) e1 (I.base.free b o e n hx)
 ·obtain ⟨o',e1⟩:=I.base.there b o e hx
  exact there b o' (neC b o e hx) e1
 ·obtain ⟨m1,e1⟩:=I.base.tbls b ps e
  obtain ⟨m2,e2⟩:=tbls b _ e1
  exact ⟨m1 ++ m2,by rw [e2,Array.append_assoc]⟩
 ·obtain ⟨m,hn,hl⟩:=I.loc
  refine ⟨m,ns m hn,fun i x v e1 e2 e3=>?_⟩
  obtain ⟨u,r,l⟩:=hl i x v e1 e2 e3
  refine ⟨u,r,?_⟩
  rcases l with l | ⟨k,c,e,z⟩
  ·exact .inl l
  ·exact .inr ⟨k,c,e,cellK x c e _ z⟩
 ·obtain ⟨v,z⟩:=I.cell x c e
  exact ⟨v,cellK x c e v z⟩
 ·obtain ⟨m,⟨o,_,_,ho,_⟩,_⟩:=I.loc
  exact free _ o (fun z=>(hch _ z).2.1 rfl) ho I.free
 ·obtain ⟨v,o,ho,hd⟩:=I.cell x c e
  exact free c o (fun z=>(hch c z).2.2.1 x c e rfl) ho (I.freeC x c e)
 ·obtain ⟨e,n,ne,nf,d⟩:=I.pin p hp
  have nch:p.1 ∉ ch:=fun z=>(hch p.1 z).2.2.2 p hp rfl
  exact ⟨keep p.1 p.2 ne nf nch e n,free p.1 p.2 nch e n,ne,nf,d⟩
theorem Inv.un {t':Nat} (I:Inv X pins σ H s) (u:Un X.fs [] H H' s.heap h') (hok:HOk X.prog X.w H' h'):Inv X pins σ H' { s with heap:=h',toks:=t' }:=by
 obtain ⟨m,⟨o,es,ep,ho,r⟩,_⟩:=id I.loc
 obtain ⟨sl,hL⟩:=u.any ho I.free (by simp)
 exact I.step (g':=s.gens) (d':=s.drawn) (ch:=[]) (fun _ z=>nomatch z) (fun b o _ hb _ e n=>u.keep b o e n hb (by simp)) (fun b o _ hb _ e n=>u.slot b o e n hb (by simp)) (fun b o _ e n=>u.free b o e n (by simp)) (fun b o _ e=>u.there b o e (by simp)) u.tups u.frzs u.tbls (fun m' hm=>by
  obtain ⟨o',es',ep',ho',r'⟩:=hm
  rw [ho] at ho';cases ho'
  exact ⟨_,es',ep',hL,r'⟩) hok I.bare
theorem Inv.call {g':Array GenState} {t':Nat} {d':Drawn} {ch:List Addr} (I:Inv X pins σ H s) (u:Un (frs X.stack) ch H H' s.heap h') (hok:HOk X.prog X.w H' h') (hg:AllBare g')
  (hch:∀ b∈ch,(b∈X.ex∨X.s₀.heap.objs.size≤b)∧b≠X.env.locals∧(∀ x c,X.env.cells.lookup x=some c→c≠b)∧∀ p∈X.pn ++ pins,p.1≠b) :
  Inv X pins σ H' { s with heap:=h',gens:=g',drawn:=d',toks:=t' }:=by
 obtain ⟨m,⟨o,es,ep,ho,r⟩,_⟩:=id I.loc
 obtain ⟨sl,hL⟩:=u.any ho I.free fun z=>(hch _ z).2.1 rfl
 exact I.step (ch:=ch) hch (fun b o hL hb hc e n=>u.keep b o e n (fun z=>(List.mem_cons.mp (I.stkSub b z)).elim hL hb) hc) (fun b o _ _ hc e n=>u.any e n hc) (fun b o hc e n=>u.free b o e n hc) (fun b o hc e=>u.there b o e hc) u.tups u.frzs u.tbls (fun m' hm=>by
  obtain ⟨o',es',ep',ho',r'⟩:=hm
  rw [ho] at ho';cases ho'
  exact ⟨_,es',ep',hL,r'⟩) hok hg
theorem Inv.turned {t':Nat} {it:Addr} (I:Inv X pins σ H s) (k:∀ b o,b≠it→s.heap.get? b=some o→h'.get? b=some o) (hn:H it=none) (hL:it≠X.env.locals)
  (h1:it∈X.ex∨X.s₀.heap.objs.size≤it) (h2:∀ x c,X.env.cells.lookup x=some c→c≠it) (h3:∀ p∈X.pn ++ pins,p.1≠it):Inv X pins σ H { s with heap:=h',toks:=t' }:=by
 have nit:∀ b u,H b=some u→b≠it:=fun b u e z=>by rw [z,hn] at e;cases e
 refine I.step (g':=s.gens) (d':=s.drawn) (ch:=[it]) (fun b hb=>?_) (fun b o _ _ hc e _=>k b o (fun z=>hc (by simp [z])) e) (fun b o _ _ hc e _=>⟨o.slots,k b o (fun z=>hc (by simp [z])) e⟩) (fun _ _ _ _ n=>n)
  (fun b o hc e=>⟨o,k b o (fun z=>hc (by simp [z])) e⟩) (fun _ _ e=>e) (fun _ _ _ e=>e) (fun b ps e=>⟨#[],by rw [e];simp⟩) (fun m hm=>?_) (fun b u e=>?_) I.bare
 ·have e:b=it:=by simpa using hb
  subst e
  exact ⟨h1,hL,h2,h3⟩
 ·obtain ⟨o,es,ep,ho,r⟩:=hm
  exact ⟨o,es,ep,k _ o (Ne.symm hL) ho,r⟩
 ·refine (I.hok b u e).stay (fun c v hc q=>k c v ?_ q) (fun _ q=>q) fun _ _ q=>q
  rcases hc with z | z
  ·rw [z];exact nit b u e
  ·exact nit c _ z
theorem Inv.tok (I:Inv X pins σ H s) (t:Nat):Inv X pins σ H { s with toks:=t }:=I.un (h':=s.heap) (t':=t) Un.refl I.hok
theorem Inv.kept {t':Nat} (I:Inv X pins σ H s) (k:∀ b u,s.heap.get? b=some u→h'.get? b=some u):Inv X pins σ H { s with heap:=h',toks:=t' }:=I.un (Un.kept k) (I.hok.kept k)
theorem Inv.laid {a:Addr} {o:HO} {t':Nat} (I:Inv X pins σ H s) (k:∀ b u,s.heap.get? b=some u→h'.get? b=some u) (hp:s.heap.objs.size≤a) (new:ObjOk X.prog X.w (upd H a o) h' a o) :
  Inv X pins σ (upd H a o) { s with heap:=h',toks:=t' }:=I.un (Un.laid k hp (I.hok.fresh hp)) (I.hok.laid k hp new)
theorem Inv.write {x e:Addr} {o:HO} {t':Nat} (I:Inv X pins σ H s) (mu:Mut (H x)) (he:e=x∨H e=some (.own x)) (k:∀ b u,b≠e→s.heap.get? b=some u→h'.get? b=some u) (heo:∃ u,h'.get? e=some u)
  (new:ObjOk X.prog X.w (upd H x o) h' x o):Inv X pins σ (upd H x o) { s with heap:=h',toks:=t' }:=I.un (Un.write mu he k heo) (I.hok.write mu he k heo new)
theorem Inv.pins_of {pins':List (Addr × Obj)} (I:Inv X pins σ H s) (h:∀ p∈pins',s.heap.get? p.1=some p.2∧H p.1=none∧p.1≠X.env.locals∧p.1 ∉ X.fs∧∀ v,p.2.data≠.cell v):Inv X pins' σ H s:=
 ⟨I.ok,I.os,I.bare,I.base,I.loc,I.cell,I.free,I.freeC,fun p hp=>(List.mem_append.mp hp).elim (fun z=>I.pin p (List.mem_append_left _ z)) (h p),I.hok,I.len⟩
theorem nodup_ix {N:List Str} (hN:N.Nodup) {i j:Nat} {x:Str} (a:N[i]?=some x) (b:N[j]?=some x):i=j:=by
 obtain ⟨h1,e1⟩:=List.getElem?_eq_some_iff.mp a
 obtain ⟨h2,e2⟩:=List.getElem?_eq_some_iff.mp b
 exact (List.getElem_inj hN).mp (e1.trans e2.symm)
theorem store_ok2 {M:Model} {A:Around} {E:Value→Shared→Prop} {i:Nat} {x:Str} {v:V} {u:Value} {Q:Unit→Shared→Prop} (I:Inv X pins σ H s) (hN:X.N.Nodup) (hi:X.N[i]?=some x) (hx:Loc X.env.scope x) (r:RelV v u)
  (h:∀ s',Inv X pins (σ.set i (some v)) H s'→(∃ a,Heap.SameBut a s.heap s'.heap∧(a=X.env.locals∨X.env.cells.lookup x=some a))→Q () s') (hf:X.fn x=true∨X.env.scope.names.lookup x=some .local:=by first | exact .inl rfl | exact .inr rfl | assumption):wpAny M A (storeName X.env x u) Q E s:=by
 obtain ⟨m,hn,hl⟩:=id I.loc
 have hcls:(X.env.scope.kind == .class || (X.env.scope.kind == .module && X.env.locals != X.env.globals))=false:=by rw [I.ok.kind];rfl
 have hiσ:i < σ.length:=by rw [I.len];exact (List.getElem?_eq_some_iff.mp hi).1
 have cne:=I.cne
 have tracked:∀ {a:Addr} {h':Heap},(∃ o,s.heap.get? a=some o∧H a=none)→Heap.SameBut a s.heap h'→HOk X.prog X.w H h':=fun {a h'} ha hs b ob e=>by
  obtain ⟨_,_,hfree⟩:=ha
  refine (I.hok b ob e).stay (fun c w' hc q=>(hs.2 c ?_).trans q) (fun _ q=>q) fun _ _ q=>q
  rintro rfl
  rcases hc with rfl | hc
  ·rw [hfree] at e;cases e
  ·rw [hfree] at hc;cases hc
 rcases hx with hk | hk
 ·refine wpAny_storeName_local hk hn (fun h' hn' hs=>?_) hcls
  obtain ⟨oL,_,_,hoL,_⟩:=id hn
  refine h _ ⟨I.ok,I.os,I.bare,⟨fun b o e n hb hx=>?_,fun b o e n hb hx=>?_,I.base.free,fun b o e hx=>?_,I.base.tups,I.base.frzs,I.base.tbls⟩,⟨_,hn',fun j y v' e1 e2 e3=>?_⟩,fun y c e=>?_,I.free,I.freeC,fun p hp=>?_,tracked ⟨oL,hoL,I.free⟩ hs,by simpa using I.len⟩ ⟨_,hs,.inl rfl⟩
  ·exact (hs.2 b (Nat.ne_of_lt (Nat.lt_of_lt_of_le (Heap.lt_size e) I.ok.above))).trans (I.base.keep b o e n hb hx)
  ·obtain ⟨sl,e1⟩:=I.base.slot b o e n hb hx
   exact ⟨sl,(hs.2 b (Nat.ne_of_lt (Nat.lt_of_lt_of_le (Heap.lt_size e) I.ok.above))).trans e1⟩
  ·obtain ⟨o',e1⟩:=I.base.there b o e hx
   exact ⟨o',(hs.2 b (Nat.ne_of_lt (Nat.lt_of_lt_of_le (Heap.lt_size e) I.ok.above))).trans e1⟩
  ·by_cases hj:j=i
   ·subst hj
    rw [hi] at e1;cases e1
    rw [List.getElem?_set_self hiσ] at e2
    cases e2
    exact ⟨u,r,.inl ⟨hk,by simp⟩⟩
   ·rw [List.getElem?_set_ne (Ne.symm hj)] at e2
    obtain ⟨u',r',q⟩:=hl j y v' e1 e2 e3
    refine ⟨u',r',?_⟩
    rcases q with ⟨k,e⟩ | ⟨k,c,e,z⟩
    ·refine .inl ⟨k,?_⟩
     have:y≠x:=fun e=>hj (nodup_ix hN e1 (e ▸ hi))
     simp [this,e]
    ·exact .inr ⟨k,c,e,z.sameBut hs (cne y c e)⟩
  ·obtain ⟨w',z⟩:=I.cell y c e
   exact ⟨w',z.sameBut hs (cne y c e)⟩
  ·obtain ⟨e,n,ne,nf,d⟩:=I.pin p hp
   exact ⟨(hs.2 p.1 ne).trans e,n,ne,nf,d⟩
 ·have hfn:X.fn x=true:=by
   rcases hf with z | z
   ·exact z
   ·rw [z] at hk;cases hk
  obtain ⟨c,hc⟩:=I.ok.has x (.inl hk)
  obtain ⟨w',z⟩:=I.cell x c hc
  refine wpAny_storeName_cell I.ok.kind hk hc z (fun h' hc' hs=>?_)
  obtain ⟨oc,hoc,hocd⟩:=id z
  refine h { s with heap:=h' } ⟨I.ok,I.os,I.bare,⟨fun b o e n hb hx=>?_,fun b o e n hb hx=>?_,I.base.free,fun b o e hx=>?_,I.base.tups,I.base.frzs,I.base.tbls⟩,⟨m,hn.sameBut hs (Ne.symm (cne x c hc)),fun j y v' e1 e2 e3=>?_⟩,fun y c' e=>?_,I.free,I.freeC,fun p hp=>?_,tracked ⟨oc,hoc,I.freeC x c hc⟩ hs,by simpa using I.len⟩ ⟨c,hs,.inr hc⟩
  ·exact (hs.2 b (Nat.ne_of_lt (Nat.lt_of_lt_of_le (Heap.lt_size e) (I.ok.cab x c hfn hc)))).trans (I.base.keep b o e n hb hx)
  ·obtain ⟨sl,e1⟩:=I.base.slot b o e n hb hx
   exact ⟨sl,(hs.2 b (Nat.ne_of_lt (Nat.lt_of_lt_of_le (Heap.lt_size e) (I.ok.cab x c hfn hc)))).trans e1⟩
  ·obtain ⟨o',e1⟩:=I.base.there b o e hx
   exact ⟨o',(hs.2 b (Nat.ne_of_lt (Nat.lt_of_lt_of_le (Heap.lt_size e) (I.ok.cab x c hfn hc)))).trans e1⟩
  ·by_cases hj:j=i
   ·subst hj
    rw [hi] at e1;cases e1
    rw [List.getElem?_set_self hiσ] at e2
    cases e2
    exact ⟨u,r,.inr ⟨.inl hk,c,hc,hc'⟩⟩
   ·rw [List.getElem?_set_ne (Ne.symm hj)] at e2
    obtain ⟨u',r',q⟩:=hl j y v' e1 e2 e3
    refine ⟨u',r',?_⟩
    rcases q with q | ⟨k,c',e,z'⟩
    ·exact .inl q
    ·refine .inr ⟨k,c',e,z'.sameBut hs ?_⟩
     rintro rfl
     exact hj (nodup_ix hN e1 (I.ok.inj _ _ _ e hc ▸ hi))
  ·by_cases hcc:c'=c
   ·subst hcc;exact ⟨_,hc'⟩
   ·obtain ⟨w2,z2⟩:=I.cell y c' e
    exact ⟨w2,z2.sameBut hs hcc⟩
  ·obtain ⟨e,n,ne,nf,d⟩:=I.pin p hp
   refine ⟨(hs.2 p.1 ?_).trans e,n,ne,nf,d⟩
   intro q
   rw [q,hoc] at e
   have q':oc=p.2:=Option.some.inj e
   exact d w' (by rw [← q'];exact hocd)
theorem store_ok {M:Model} {A:Around} {E:Value→Shared→Prop} {i:Nat} {x:Str} {v:V} {u:Value} {Q:Unit→Shared→Prop} (I:Inv X pins σ H s) (hN:X.N.Nodup) (hi:X.N[i]?=some x) (hx:Loc X.env.scope x) (r:RelV v u)
  (h:∀ s',Inv X pins (σ.set i (some v)) H s'→Q () s') (hf:X.fn x=true∨X.env.scope.names.lookup x=some .local:=by first | exact .inl rfl | exact .inr rfl | assumption):wpAny M A (storeName X.env x u) Q E s:=
 store_ok2 I hN hi hx r (fun s' I' _=>h s' I') hf
theorem Inv.call' {s':Shared} {ch:List Addr} (I:Inv X pins σ H s) (ho:s'.os=s.os) (u:Un (frs X.stack) ch H H' s.heap s'.heap) (hok:HOk X.prog X.w H' s'.heap) (hg:AllBare s'.gens)
  (hch:∀ b∈ch,(b∈X.ex∨X.s₀.heap.objs.size≤b)∧b≠X.env.locals∧(∀ x c,X.env.cells.lookup x=some c→c≠b)∧∀ p∈X.pn ++ pins,p.1≠b):Inv X pins σ H' s':=by
 obtain ⟨h',g',d',t',o'⟩:=s'
 have e:o'=s.os:=ho
 subst e
 exact I.call (g':=g') (t':=t') (d':=d') u hok hg hch
end
abbrev XK:=Value→Option Addr→Hp→Prop
abbrev St:=List (Option V)
abbrev VK:=V→Hp→Prop
abbrev TE:=St→Hp→VK→Prop
abbrev TT:=St→Hp→(Bool→Hp→Prop)→Prop
abbrev TA:=St→Hp→(List V→Hp→Prop)→Prop
structure Ends where
 nx:St→Hp→Prop
 rt:VK
 bk:St→Hp→Prop:=fun _ _=>False
 ct:St→Hp→Prop:=fun _ _=>False
abbrev TS:=Ends→St→Hp→Prop
def EP (X:Cx) (pins:List (Addr × Obj)) (σ:St) (Q:VK) (u:Value) (s':Shared):Prop:=∃ v H',Inv X pins σ H' s'∧RelV v u∧Q v H'
def TP (X:Cx) (pins:List (Addr × Obj)) (σ:St) (Q:Bool→Hp→Prop) (b:Bool) (s':Shared):Prop:=∃ H',Inv X pins σ H' s'∧Q b H'
def AP (X:Cx) (pins:List (Addr × Obj)) (σ:St) (Q:List V→Hp→Prop) (us:List Value) (s':Shared):Prop:=∃ vs H',Inv X pins σ H' s'∧Vals vs us∧Q vs H'
def SP (X:Cx) (pins:List (Addr × Obj)) (D:Ends) (f:Flow) (s':Shared):Prop:=
 match f with
 | .next=>∃ σ' H',Inv X pins σ' H' s'∧D.nx σ' H'
 | .brk=>∃ σ' H',Inv X pins σ' H' s'∧D.bk σ' H'
 | .cont=>∃ σ' H',Inv X pins σ' H' s'∧D.ct σ' H'
 | .ret u=>∃ v σ' H',Inv X pins σ' H' s'∧RelV v u∧D.rt v H'
def PE (X:Cx) (e:Expr) (t:TE):Prop:=
 ∀ (pins:List (Addr × Obj)) (s:Shared) (σ:St) (H:Hp) (Q:VK),Inv X pins σ H s→t σ H Q→wpAny (model X.prog X.w) X.A (eval e X.env) (EP X pins σ Q) X.xe s
def PT (X:Cx) (e:Expr) (t:TT):Prop:=
 ∀ (pins:List (Addr × Obj)) (s:Shared) (σ:St) (H:Hp) (Q:Bool→Hp→Prop),Inv X pins σ H s→t σ H Q→wpAny (model X.prog X.w) X.A (isTrue e X.env (eval e X.env)) (TP X pins σ Q) X.xe s
def PW (X:Cx) (e:Expr) (t:TT):Prop:=
 ∀ (whole:Sem Value) (pins:List (Addr × Obj)) (s:Shared) (σ:St) (H:Hp) (Q:Bool→Hp→Prop),Inv X pins σ H s→t σ H Q→wpAny (model X.prog X.w) X.A (isTrue e X.env whole) (TP X pins σ Q) X.xe s
theorem PW.pt {X:Cx} {e:Expr} {t:TT} (h:PW X e t):PT X e t:=h _
def PA (X:Cx) (es:List Expr) (t:TA):Prop:=
 ∀ (pos:Pos) (pins:List (Addr × Obj)) (s:Shared) (σ:St) (H:Hp) (Q:List V→Hp→Prop),Inv X pins σ H s→t σ H Q→wpAny (model X.prog X.w) X.A (spliced (backTo pos (starEach es X.env))) (AP X pins σ Q) X.xe s
def PS (X:Cx) (st:Stmt) (t:TS):Prop:=
 ∀ (pins:List (Addr × Obj)) (s:Shared) (σ:St) (H:Hp) (D:Ends),Inv X pins σ H s→t D σ H→wpAny (model X.prog X.w) X.A (exec st X.env) (SP X pins D) X.xe s
def PSs (X:Cx) (st:List Stmt) (t:TS):Prop:=
 ∀ (pins:List (Addr × Obj)) (s:Shared) (σ:St) (H:Hp) (D:Ends),Inv X pins σ H s→t D σ H→wpAny (model X.prog X.w) X.A (execs st X.env) (SP X pins D) X.xe s
theorem thn {α:Type} {t:Sem α} {Q Q':α→Shared→Prop} {M:Model} {A:Around} {E:Value→Shared→Prop} {s:Shared} (h:wpAny M A t Q E s) (hQ:∀ a s,Q a s→Q' a s):wpAny M A t Q' E s:=wpAny_mono h hQ fun _ _ x=>x
end L2
namespace L2
open PySem PySem.Spec PyProof.Rows
section
variable {X:Cx}
def tVar (i:Nat):TE:=fun σ H Q=>∃ v,σ[i]?=some (some v)∧Q v H
def tC (v:V):TE:=fun _ H Q=>Q v H
theorem pe_var {i:Nat} {x:Str} {pos:Pos} (hN:X.N[i]?=some x) (hv:Vis X.env.scope x) (hd:(x == ("__debug__":Str))=false:=by decide) (hcd:(x == ("__classdict__":Str))=false:=by decide):PE X (.Name x pos) (tVar i):=by
 intro pins s σ H Q I h
 obtain ⟨v,e,h⟩:=h
 obtain ⟨m,hn,hl⟩:=I.loc
 obtain ⟨u,r,l⟩:=hl i x v hN e hv
 have fin:EP X pins σ Q u s:=⟨v,H,I,r,h⟩
 rcases l with ⟨hk,hm⟩ | ⟨hk,c,hc,hcell⟩
 ·exact wpAny_Name (wpAny_loadName_local I.ok.kind hk hn hm fin) hd
 ·rcases hk with hk | hk
  ·exact wpAny_Name (wpAny_loadName_cell I.ok.kind hk hc hcell fin) hd
  ·exact wpAny_Name (wpAny_loadName_free I.ok.kind hk hc hcell fin hcd) hd
theorem pe_int {i j pos}:PE X (.Constant (.int i) j pos) (tC (.int i)):=fun _ _ _ H _ I h=>wpAny_Constant_int ⟨.int i,H,I.tok _,⟨_,rfl⟩,h⟩
theorem pe_bl {b j pos}:PE X (.Constant (.bool b) j pos) (tC (.bl b)):=fun _ _ _ H _ I h=>Constant_bool ⟨.bl b,H,I,rfl,h⟩
theorem pe_non {j pos}:PE X (.Constant .none j pos) (tC .non):=fun _ _ _ H _ I h=>Constant_none ⟨.non,H,I,rfl,h⟩
theorem pe_str {x j pos}:PE X (.Constant (.str x) j pos) (tC (.str x)):=fun _ _ _ H _ I h=>Calls.Constant_str ⟨.str x,H,I.tok _,⟨_,rfl⟩,h⟩
def Gl (X:Cx) (x:Str):Prop:=X.env.kindOf x=some .globalImplicit
theorem ld_glob {E:Value→Shared→Prop} {pins:List (Addr × Obj)} {s:Shared} {σ:St} {H:Hp} {x:Str} {u:Value} {pos:Pos} {Q:Value→Shared→Prop} (I:Inv X pins σ H s) (hg:Gl X x) (hm:X.mg x=some u) (h:Q u s)
  (hd:(x == ("__debug__":Str))=false:=by decide):wpAny (model X.prog X.w) X.A (eval (.Name x pos) X.env) Q E s:=
 Calls.Name_function_global I.ok.kind hg (Calls.loadGlobal_global (by rw [I.ok.glob];exact I.mod.glob.keeps I.bk) hm h) hd
theorem ld_blt {E:Value→Shared→Prop} {pins:List (Addr × Obj)} {s:Shared} {σ:St} {H:Hp} {x:Str} {u:Value} {pos:Pos} {Q:Value→Shared→Prop} (I:Inv X pins σ H s) (hg:Gl X x) (hm:X.mg x=none) (hv:bootBuiltins x=some u) (h:Q u s)
  (hn:x≠"__name__":=by decide) (hd:(x == ("__debug__":Str))=false:=by decide):wpAny (model X.prog X.w) X.A (eval (.Name x pos) X.env) Q E s:=by
 obtain ⟨mb,h1,h2⟩:=I.mod.blt
 exact Calls.Name_function_global I.ok.kind hg (Calls.loadGlobal_builtin (by rw [I.ok.glob];exact I.mod.glob.keeps I.bk) hm (by rw [I.ok.blt];exact h1.keeps I.bk) ((h2 x hn).trans hv) h) hd
theorem pe_glob {x:Str} {v:V} {u:Value} {pos:Pos} (hg:Gl X x) (hm:X.mg x=some u) (r:RelV v u) (hd:(x == ("__debug__":Str))=false:=by decide):PE X (.Name x pos) (tC v):=
 fun _ _ _ H _ I h=>ld_glob I hg hm ⟨v,H,I,r,h⟩ hd
theorem pe_bltn {x:Str} {v:V} {u:Value} {pos:Pos} (hg:Gl X x) (hm:X.mg x=none) (hv:bootBuiltins x=some u) (r:RelV v u) (hn:x≠"__name__":=by decide) (hd:(x == ("__debug__":Str))=false:=by decide):PE X (.Name x pos) (tC v):=
 fun _ _ _ H _ I h=>ld_blt I hg hm hv ⟨v,H,I,r,h⟩ hn hd
variable {a b:Expr} {ta tb:TE} {pos:Pos}
def tB (t:TE):TT:=fun σ H Q=>t σ H fun x H1=>∃ c,x=.bl c∧Q c H1
variable {tA tB':TT} {rest:List Expr}
def tAnd (t u:TT):TT:=fun σ H Q=>t σ H fun c H1=>if c=true then u σ H1 Q else Q false H1
def tOr (t u:TT):TT:=fun σ H Q=>t σ H fun c H1=>if c=true then Q true H1 else u σ H1 Q
def tNot (t:TT):TT:=fun σ H Q=>t σ H fun c H1=>Q (!c) H1
theorem pw_and1 (ha:PT X a tA):PW X (.BoolOp .And [a] pos) tA:=by
 intro wh pins s σ H Q I h
 refine isTrue_and (thn (ha pins s σ H Q I h) fun c s1 e=>?_)
 cases c with
 | true=>exact isTrue_and_nil e
 | false=>exact e
theorem pw_or1 (ha:PT X a tA):PW X (.BoolOp .Or [a] pos) tA:=by
 intro wh pins s σ H Q I h
 refine isTrue_or (thn (ha pins s σ H Q I h) fun c s1 e=>?_)
 cases c with
 | false=>exact isTrue_or_nil e
 | true=>exact e
theorem pw_and (ha:PT X a tA) (hb:PW X (.BoolOp .And (b :: rest) pos) tB'):PW X (.BoolOp .And (a :: b :: rest) pos) (tAnd tA tB'):=by
 intro wh pins s σ H Q I h
 refine isTrue_and (thn (ha pins s σ H _ I h) fun c s1 ⟨H1,I1,q1⟩=>?_)
 cases c with
 | true=>exact hb wh pins s1 σ H1 Q I1 q1
 | false=>exact ⟨H1,I1,q1⟩
theorem pw_or (ha:PT X a tA) (hb:PW X (.BoolOp .Or (b :: rest) pos) tB'):PW X (.BoolOp .Or (a :: b :: rest) pos) (tOr tA tB'):=by
 intro wh pins s σ H Q I h
 refine isTrue_or (thn (ha pins s σ H _ I h) fun c s1 ⟨H1,I1,q1⟩=>?_)
 cases c with
 | true=>exact ⟨H1,I1,q1⟩
 | false=>exact hb wh pins s1 σ H1 Q I1 q1
theorem pt_not (ha:PT X a tA):PT X (.UnaryOp .Not a pos) (tNot tA):=by
 intro pins s σ H Q I h
 exact isTrue_not (ha pins s σ H (fun c H1=>Q (!c) H1) I h)
def tAndV (ta tb:TE):TE:=fun σ H Q=>ta σ H fun x H1=>∃ c,x=.bl c∧if c=true then tb σ H1 Q else Q (.bl false) H1
def tOrV (ta tb:TE):TE:=fun σ H Q=>ta σ H fun x H1=>∃ c,x=.bl c∧if c=true then Q (.bl true) H1 else tb σ H1 Q
def tNotV (ta:TE):TE:=fun σ H Q=>ta σ H fun x H1=>∃ c,x=.bl c∧Q (.bl (!c)) H1
theorem pe_one {op} {t:TE} (h:PE X a t):PE X (.BoolOp op [a] pos) t:=fun pins s σ H Q I hw=>BoolOp_one (h pins s σ H Q I hw)
theorem pe_and (ha:PE X a ta) (hb:PE X (.BoolOp .And (b :: rest) pos) tb):PE X (.BoolOp .And (a :: b :: rest) pos) (tAndV ta tb):=by
 intro pins s σ H Q I h
 refine BoolOp_and (thn (ha pins s σ H _ I h) fun v s1 ⟨x,H1,I1,r1,q1⟩=>?_)
 obtain ⟨c,rfl,q1⟩:=q1
 cases r1
 refine wpAny_truthy_bool ?_
 cases c with
 | true=>exact hb pins s1 σ H1 Q I1 q1
 | false=>exact ⟨.bl false,H1,I1,rfl,q1⟩
theorem pe_not (ha:PE X a ta):PE X (.UnaryOp .Not a pos) (tNotV ta):=by
 intro pins s σ H Q I h
 refine UnaryOp_ (thn (ha pins s σ H _ I h) fun v s1 ⟨x,H1,I1,r1,q1⟩=>?_)
 obtain ⟨c,rfl,q1⟩:=q1
 cases r1
 exact not_of (wpAny_truthy_bool ⟨.bl (!c),H1,I1,rfl,q1⟩)
def tIf (t:TT) (ta tb:TE):TE:=fun σ H Q=>t σ H fun c H1=>if c=true then ta σ H1 Q else tb σ H1 Q
end
end L2
namespace L2
open PySem PySem.Spec PyProof.Rows
def SqL (K:PySem.W.Frag) (H:Hp) (a:Addr) (xs:List V):Prop:=
 Rd H a (.lst xs) ∨
  ∃ (o:Obj) (its:Array Value) (n:Nat),K.lookup a=some o∧o.cls=.type "list"∧o.dict=none∧o.data=.seq its n∧its.size≤sizeLine∧Vals xs its.toList
def SqT (K:PySem.W.Frag) (H:Hp) (a:Addr) (xs:List V):Prop:=
 Rd H a (.tup xs) ∨
  ∃ (o:Obj) (its:Array Value) (n:Nat),K.lookup a=some o∧o.cls=.type "tuple"∧o.data=.seq its n∧its.size≤sizeLine∧Vals xs its.toList
def absV:Value→Option V
 | .none=>some .non
 | .bool b=>some (.bl b)
 | .int i _=>some (.int i)
 | .str x _=>some (.str x)
 | .bytes b _=>some (.byt b)
 | .float b _=>some (.flt b)
 | .ref a=>some (.ref a)
 | .type n=>some (.ty n)
 | _=>none
theorem RelV.abs {x:V} {u:Value} (r:RelV x u):absV u=some x:=by
 cases x with
 | non=>cases r;rfl
 | bl _=>cases r;rfl
 | int _=>obtain ⟨t,rfl⟩:=r;rfl
 | str _=>obtain ⟨t,rfl⟩:=r;rfl
 | byt _=>obtain ⟨t,rfl⟩:=r;rfl
 | flt _=>obtain ⟨t,rfl⟩:=r;rfl
 | ref _=>cases r;rfl
 | ty _=>cases r;rfl
theorem RelV.inj {x y:V} {u:Value} (r:RelV x u) (q:RelV y u):x=y:=Option.some.inj (r.abs.symm.trans q.abs)
theorem Vals.inj:∀ {xs ys:List V} {us:List Value},Vals xs us→Vals ys us→xs=ys
 | _,_,_,.nil,.nil=>rfl
 | _,_,_,.cons r t,.cons r' t'=>by rw [r.inj r',Vals.inj t t']
section
variable {X:Cx} {pins:List (Addr × Obj)} {σ:St} {H:Hp} {s:Shared} {a:Addr} {xs ys:List V}
theorem SqL.of {K:PySem.W.Frag} (h:H a=some (.lst xs)):SqL K H a xs:=.inl (.inl h)
theorem SqT.of {K:PySem.W.Frag} (h:H a=some (.tup xs)):SqT K H a xs:=.inl (.inl h)
theorem Inv.list (I:Inv X pins σ H s) (h:SqL X.K H a xs):∃ its:List Value,Vals xs its∧PlainL s.heap a its.toArray∧xs.length≤sizeLine:=by
 rcases h with h | ⟨o,its,n,hk,hc,hd,hs,hz,r⟩
 ·obtain ⟨z,its,n,r,e⟩:=h.ok I.hok
  exact ⟨its,r,⟨_,n,e,rfl,rfl,rfl⟩,z⟩
 ·refine ⟨its.toList,r,⟨o,n,I.kIn a o hk,hc,hd,by simpa using hs⟩,?_⟩
  have e:=r.length
  simp only [Array.length_toList] at e
  omega
theorem Inv.tuple (I:Inv X pins σ H s) (h:SqT X.K H a xs):∃ its:List Value,Vals xs its∧IsTup s.heap a its.toArray∧xs.length≤sizeLine:=by
 rcases h with h | ⟨o,its,n,hk,hc,hs,hz,r⟩
 ·obtain ⟨z,its,r,p⟩:=h.ok I.hok
  exact ⟨its,r,p,z⟩
 ·refine ⟨its.toList,r,⟨o,I.kIn a o hk,hc,n,by simpa using hs⟩,?_⟩
  have e:=r.length
  simp only [Array.length_toList] at e
  omega
theorem Inv.list_inj (I:Inv X pins σ H s) (h:SqL X.K H a xs) (h':SqL X.K H a ys):xs=ys:=by
 obtain ⟨its,r,⟨o,n,e,_,_,d⟩,_⟩:=I.list h
 obtain ⟨its',r',⟨o',n',e',_,_,d'⟩,_⟩:=I.list h'
 rw [e] at e';cases e'
 rw [d] at d'
 injection d' with d1 _
 have:its=its':=by simpa using congrArg Array.toList d1
 subst this
 exact r.inj r'
theorem Inv.tuple_inj (I:Inv X pins σ H s) (h:SqT X.K H a xs) (h':SqT X.K H a ys):xs=ys:=by
 obtain ⟨its,r,⟨o,e,_,n,d⟩,_⟩:=I.tuple h
 obtain ⟨its',r',⟨o',e',_,n',d'⟩,_⟩:=I.tuple h'
 rw [e] at e';cases e'
 rw [d] at d'
 injection d' with d1 _
 have:its=its':=by simpa using congrArg Array.toList d1
 subst this
 exact r.inj r'
end
abbrev Cx.wish (X:Cx) (E:Value→Shared→Prop):Cx:={ X with xe:=E }
abbrev Cx.nox (X:Cx):Cx:=X.wish fun _ _=>False
theorem Cx.Ok.wish {X:Cx} (ok:X.Ok) (E:Value→Shared→Prop):(X.wish E).Ok:=
 ⟨ok.mod,ok.kind,ok.glob,ok.blt,ok.above,ok.inj,ok.has,ok.cab,ok.hd,ok.frames,ok.stk,ok.exf,ok.bs,ok.bsz,ok.noex,ok.exfs,ok.funs,ok.frf⟩
theorem Cx.Ok.unwish {X:Cx} {E:Value→Shared→Prop} (ok:(X.wish E).Ok):X.Ok:=
 ⟨ok.mod,ok.kind,ok.glob,ok.blt,ok.above,ok.inj,ok.has,ok.cab,ok.hd,ok.frames,ok.stk,ok.exf,ok.bs,ok.bsz,ok.noex,ok.exfs,ok.funs,ok.frf⟩
section
variable {X:Cx} {pins:List (Addr × Obj)} {σ:St} {H:Hp} {s:Shared} {E:Value→Shared→Prop}
theorem Inv.wish (I:Inv X pins σ H s) (E:Value→Shared→Prop):Inv (X.wish E) pins σ H s:=⟨I.ok.wish E,I.os,I.bare,I.base,I.loc,I.cell,I.free,I.freeC,I.pin,I.hok,I.len⟩
theorem Inv.unwish (I:Inv (X.wish E) pins σ H s):Inv X pins σ H s:=⟨I.ok.unwish,I.os,I.bare,I.base,I.loc,I.cell,I.free,I.freeC,I.pin,I.hok,I.len⟩
theorem SP.unwish {D:Ends} {f:Flow} {s':Shared} (h:SP (X.wish E) pins D f s'):SP X pins D f s':=by
 cases f with
 | next=>obtain ⟨σ',H',I,q⟩:=h;exact ⟨σ',H',I.unwish,q⟩
 | brk=>obtain ⟨σ',H',I,q⟩:=h;exact ⟨σ',H',I.unwish,q⟩
 | cont=>obtain ⟨σ',H',I,q⟩:=h;exact ⟨σ',H',I.unwish,q⟩
 | ret u=>obtain ⟨v,σ',H',I,r,q⟩:=h;exact ⟨v,σ',H',I.unwish,r,q⟩
theorem PE.nox {e:Expr} {t:TE} (h:PE X.nox e t):PE X e t:=fun pins s σ H Q I hw=>
 wpAny_mono (h pins s σ H Q (I.wish _) hw) (fun _ _ ⟨v,H',I',r,q⟩=>⟨v,H',I'.unwish,r,q⟩) fun _ _ z=>False.elim z
theorem PT.nox {e:Expr} {t:TT} (h:PT X.nox e t):PT X e t:=fun pins s σ H Q I hw=>
 wpAny_mono (h pins s σ H Q (I.wish _) hw) (fun _ _ ⟨H',I',q⟩=>⟨H',I'.unwish,q⟩) fun _ _ z=>False.elim z
theorem PSs.nox {st:List Stmt} {t:TS} (h:PSs X.nox st t):PSs X st t:=fun pins s σ H D I hw=>
 wpAny_mono (h pins s σ H D (I.wish _) hw) (fun _ _ q=>q.unwish) fun _ _ z=>False.elim z
end
section
variable {X:Cx} {st:Stmt} {rest:List Stmt} {t u:TS} {e:Expr} {te:TE} {pos:Pos}
def tNext:TS:=fun D σ H=>D.nx σ H
def tSeq (t u:TS):TS:=fun D σ H=>t { D with nx:=u D } σ H
theorem pss_nil:PSs X [] tNext:=fun _ _ σ H _ I h=>wpAny_execs_nil ⟨σ,H,I,h⟩
theorem pss_cons (h1:PS X st t) (h2:PSs X rest u):PSs X (st :: rest) (tSeq t u):=by
 intro pins s σ H D I h
 refine wpAny_execs_cons (thn (h1 pins s σ H { D with nx:=u D } I h) fun f s1 q=>?_)
 cases f with
 | next=>
  obtain ⟨σ',H',I',q⟩:=q
  exact h2 pins s1 σ' H' D I' q
 | ret v=>exact q
 | brk=>exact q
 | cont=>exact q
theorem pss_one (h1:PS X st t):PSs X [st] t:=by
 intro pins s σ H D I h
 refine wpAny_execs_cons (thn (h1 pins s σ H D I h) fun f s1 q=>?_)
 cases f with
 | next=>exact wpAny_execs_nil q
 | ret v=>exact q
 | brk=>exact q
 | cont=>exact q
def tBreak:TS:=fun D σ H=>D.bk σ H
def tCont:TS:=fun D σ H=>D.ct σ H
theorem Inv.quiet {pins:List (Addr × Obj)} {σ:St} {H:Hp} {s:Shared} (I:Inv X pins σ H s):interactive X.env=false:=by simp [interactive,I.ok.kind]
def tDrop (te:TE):TS:=fun D σ H=>te σ H fun _ H1=>D.nx σ H1
theorem ps_expr (he:PE X e te) (hs:swapsWith e none pos.line X.env=pure false:=by rfl):PS X (.Expr e pos) (tDrop te):=by
 intro pins s σ H D I h
 exact wpAny_Expr_any (thn (he pins s σ H _ I h) fun v s1 ⟨x,H1,I1,r1,q1⟩=>⟨σ,H1,I1,q1⟩) I.quiet hs
def tRet (te:TE):TS:=fun D σ H=>te σ H D.rt
theorem ps_ret (he:PE X e te):PS X (.Return (some e) pos) (tRet te):=by
 intro pins s σ H D I h
 exact wpAny_Return_some (thn (he pins s σ H _ I h) fun v s1 ⟨x,H1,I1,r1,q1⟩=>⟨x,σ,H1,I1,r1,q1⟩)
def tRetN:TS:=fun D _ H=>D.rt .non H
def tIfS (c:TT) (t u:TS):TS:=fun D σ H=>c σ H fun b H1=>if b=true then t D σ H1 else u D σ H1
theorem ps_if {c:Expr} {a b:List Stmt} {tc:TT} (hc:PT X c tc) (ha:PSs X a t) (hb:PSs X b u):PS X (.If c a b pos) (tIfS tc t u):=by
 intro pins s σ H D I h
 refine wpAny_If (thn (hc pins s σ H _ I h) fun d s1 ⟨H1,I1,q1⟩=>?_)
 cases d with
 | true=>exact ha pins s1 σ H1 D I1 q1
 | false=>exact hb pins s1 σ H1 D I1 q1
end
abbrev TG:=V→St→Hp→(St→Hp→Prop)→Prop
abbrev TGs:=List V→St→Hp→(St→Hp→Prop)→Prop
def PG (X:Cx) (target:Expr) (t:TG):Prop:=
 ∀ (pins:List (Addr × Obj)) (s:Shared) (σ:St) (H:Hp) (v:V) (u:Value) (Q:St→Hp→Prop),Inv X pins σ H s→RelV v u→t v σ H Q →
  wpAny (model X.prog X.w) X.A (assign target X.env u) (fun _ s'=>∃ σ' H',Inv X pins σ' H' s'∧Q σ' H') X.xe s
def PGs (X:Cx) (ts:List Expr) (t:TGs):Prop:=
 ∀ (pins:List (Addr × Obj)) (s:Shared) (σ:St) (H:Hp) (vs:List V) (us:List Value) (Q:St→Hp→Prop),Inv X pins σ H s→Vals vs us→t vs σ H Q →
  wpAny (model X.prog X.w) X.A (assignInOrder ((assignEach ts X.env).map (·.2)) us) (fun _ s'=>∃ σ' H',Inv X pins σ' H' s'∧Q σ' H') X.xe s
abbrev TSet:=V→V→V→Hp→(Hp→Prop)→Prop
def PSet (X:Cx) (t:TSet):Prop:=
 ∀ (pins:List (Addr × Obj)) (s:Shared) (σ:St) (H:Hp) (o i v:V) (ov iv u:Value) (Q:Hp→Prop),Inv X pins σ H s→RelV o ov→RelV i iv→RelV v u→t o i v H Q →
  wpAny (model X.prog X.w) X.A (setItem ov iv u) (fun _ s'=>∃ H',Inv X pins σ H' s'∧Q H') X.xe s
section
variable {X:Cx} {pos:Pos}
def gName (i:Nat):TG:=fun v σ H Q=>Q (σ.set i (some v)) H
theorem pg_name {i:Nat} {x:Str} (hN:X.N.Nodup) (hi:X.N[i]?=some x) (hx:Loc X.env.scope x) (hf:X.fn x=true∨X.env.scope.names.lookup x=some .local:=by first | exact .inl rfl | exact .inr rfl | assumption):PG X (.Name x pos) (gName i):=by
 intro pins s σ H v u Q I r h
 exact wpAny_assign_Name (store_ok I hN hi hx r (fun s' I'=>⟨_,H,I',h⟩) hf)
def gNil:TGs:=fun vs σ H Q=>vs=[]∧Q σ H
def gCons (t:TG) (u:TGs):TGs:=fun vs σ H Q=>∃ v r,vs=v :: r∧t v σ H fun σ' H'=>u r σ' H' Q
theorem pgs_nil:PGs X [] gNil:=by
 intro pins s σ H vs us Q I r h
 obtain ⟨e,h⟩:=h
 subst e
 cases r
 exact assignInOrder_nil ⟨σ,H,I,h⟩
theorem pgs_cons {e:Expr} {es:List Expr} {t:TG} {u:TGs} (h1:PG X e t) (h2:PGs X es u)
  (hs:(assignEach (e :: es) X.env).map (·.2)=assign e X.env :: (assignEach es X.env).map (·.2):=by rfl):PGs X (e :: es) (gCons t u):=by
 intro pins s σ H vs us Q I r h
 obtain ⟨v,vr,e1,h⟩:=h
 subst e1
 cases r with
 | cons r rr=>
  rw [hs]
  refine assignInOrder_cons (thn (h1 pins s σ H _ _ _ I r h) fun _ s1 ⟨σ1,H1,I1,q1⟩=>?_)
  exact h2 pins s1 σ1 H1 _ _ Q I1 rr q1
def gTup (K:PySem.W.Frag) (n:Nat) (t:TGs):TG:=fun v σ H Q=>∃ a xs,v=.ref a∧SqT K H a xs∧xs.length=n∧t xs σ H Q
theorem pg_tup {es:List Expr} {k:Nat} {t:TGs} {n:Nat} (hc:X.calm=true) (h:PGs X es t)
  (hn:(assignEach es X.env).length=n:=by rfl) (hst:(assignEach es X.env).findIdx? (·.1)=none:=by rfl):PG X (.Tuple es k pos) (gTup X.K n t):=by
 intro pins s σ H v u Q I r hw
 obtain ⟨a,xs,e1,hq,hl,hw⟩:=hw
 subst e1
 cases r
 obtain ⟨its,rv,ht,hz⟩:=I.tuple hq
 refine assign_Tuple_tuple (I.ok.hd hc) ht (by simp [hn,← hl,rv.length]) hst fun h' hx=>?_
 have I1:Inv X pins σ H { s with heap:=h' }:=I.kept (t':=s.toks) fun b o e=>hx b o (Nat.ne_of_lt (Heap.lt_size e)) e
 exact h pins _ σ H xs _ Q I1 (by simpa using rv) hw
def gSub (to ti:TE) (t:TSet):TG:=fun v σ H Q=>to σ H fun o H1=>ti σ H1 fun i H2=>t o i v H2 fun H3=>Q σ H3
theorem pg_sub {o i:Expr} {to ti:TE} {t:TSet} (ho:PE X o to) (hi:PE X i ti) (hs:PSet X t)
  (ha:∀ v,assign (.Subscript o i pos) X.env v=(do
   let ov ← holding [v] (eval o X.env)
   let iv ← holding [v,ov] (eval i X.env)
   standAt pos
   holding [v,ov,iv] (setItem ov iv v)
   release [v,ov,iv] []):=by intro _;rfl):PG X (.Subscript o i pos) (gSub to ti t):=by
 intro pins s σ H v u Q I r h
 rw [ha]
 refine wpAny_bind (wpAny_holding (thn (ho pins s σ H _ I h) fun ov s1 ⟨x,H1,I1,r1,q1⟩=>?_))
 refine wpAny_bind (wpAny_holding (thn (hi pins s1 σ H1 _ I1 q1) fun iv s2 ⟨y,H2,I2,r2,q2⟩=>?_))
 refine wpAny_bind (wpAny_standAt (wpAny_bind (wpAny_holding (thn (hs pins s2 σ H2 x y v ov iv u _ I2 r1 r2 r q2) fun _ s3 ⟨H3,I3,q3⟩=>?_))))
 exact wpAny_release ⟨σ,H3,I3,q3⟩
def tAsg (te:TE) (g:TG):TS:=fun D σ H=>te σ H fun x H1=>g x σ H1 D.nx
theorem ps_asg {tg e:Expr} {te:TE} {g:TG} (he:PE X e te) (hg:PG X tg g) (hs:swapsWithSole [tg] e pos.line X.env=pure false:=by rfl) (hw:swappedStores [tg] e X.env=pure none:=by rfl)
  (h1:(assignEach [tg] X.env).map (·.2)=[assign tg X.env]:=by rfl):PS X (.Assign [tg] e pos) (tAsg te g):=by
 intro pins s σ H D I h
 refine wpAny_Assign_stores (thn (he pins s σ H _ I h) fun v s1 ⟨x,H1,I1,r1,q1⟩=>?_) hs hw
 rw [h1]
 exact thn (hg pins s1 σ H1 x v _ I1 r1 q1) fun _ s2 q=>q
theorem ps_set {i:Nat} {x:Str} {e:Expr} {te:TE} {pos':Pos} (hN:X.N.Nodup) (hi:X.N[i]?=some x) (hx:Loc X.env.scope x) (he:PE X e te) (hs:swapsWith e (some (.Name x pos')) pos.line X.env=pure false:=by rfl) (hf:X.fn x=true∨X.env.scope.names.lookup x=some .local:=by first | exact .inl rfl | exact .inr rfl | assumption) :
  PS X (.Assign [.Name x pos'] e pos) (tAsg te (gName i)):=by
 intro pins s σ H D I h
 refine wpAny_Assign_Name (thn (he pins s σ H _ I h) fun v s1 ⟨y,H1,I1,r1,q1⟩=>?_) hs
 exact store_ok I1 hN hi hx r1 (fun s2 I2=>⟨_,H1,I2,q1⟩) hf
def tPar (i j:Nat) (ta:TA):TS:=fun D σ H=>ta σ H fun vs H1=>∃ v w,vs=[v,w]∧D.nx ((σ.set i (some v)).set j (some w)) H1
end
section
variable {X:Cx} {pos:Pos}
def tWhile (c:TT) (tb:TS):TS:=fun D σ H=>∃ W:Nat→St→Hp→Prop,(∃ m,W m σ H)∧∀ m σ H,W m σ H →
 c σ H fun b H1=>if b=true then ∃ N:St→Hp→Prop,(∀ σ' H',N σ' H'→∃ m',m' < m∧W m' σ' H')∧tb { D with nx:=N,ct:=N,bk:=D.nx } σ H1 else D.nx σ H1
theorem ps_while {c:Expr} {body:List Stmt} {tc:TT} {tb:TS} (hp:PassesOwn (model X.prog X.w) X.A X.env X.xe) (hc:PT X c tc) (hb:PSs X body tb):PS X (.While c body [] pos) (tWhile tc tb):=by
 intro pins s σ H D I h
 obtain ⟨W,⟨m0,w0⟩,turn⟩:=h
 refine wpAny_While (codeAny_whileLoop (fun n s'=>∃ σ' H',Inv X pins σ' H' s'∧W n σ' H') ?_ m0 ⟨σ,H,I,w0⟩)
 rintro n s1 ⟨σ1,H1,I1,w1⟩
 refine wpAny_passesOwn hp (thn (hc pins s1 σ1 H1 _ I1 (turn n σ1 H1 w1)) fun b s2 ⟨H2,I2,q2⟩=>?_)
 cases b with
 | true=>
  obtain ⟨N,hN,q2⟩:=q2
  rw [if_pos rfl]
  refine wpAny_passesOwn hp (thn (hb pins s2 σ1 H2 _ I2 q2) fun f s3 q3=>?_)
  cases f with
  | next=>
   obtain ⟨σ3,H3,I3,n3⟩:=q3
   obtain ⟨m',hm,w3⟩:=hN σ3 H3 n3
   exact ⟨m',hm,σ3,H3,I3,w3⟩
  | cont=>
   obtain ⟨σ3,H3,I3,n3⟩:=q3
   obtain ⟨m',hm,w3⟩:=hN σ3 H3 n3
   exact ⟨m',hm,σ3,H3,I3,w3⟩
  | brk=>exact q3
  | ret v=>exact q3
 | false=>
  rw [if_neg Bool.false_ne_true]
  exact wpAny_execs_nil ⟨σ1,H2,I2,q2⟩
end
structure It where
 go:Nat→Hp→Prop
 yld:Nat→Hp→V→Hp→Prop
 stop:Nat→Hp→Prop
def FpOk (X:Cx) (pins:List (Addr × Obj)) (H:Hp) (b:Addr):Prop:=
 H b=none∧b≠X.env.locals∧b ∉ X.fs∧(b∈X.ex∨X.s₀.heap.objs.size≤b)∧(∀ x c,X.env.cells.lookup x=some c→c≠b)∧∀ p∈X.pn ++ pins,p.1≠b
theorem Inv.fpOk {X:Cx} {pins:List (Addr × Obj)} {σ:St} {H H':Hp} {s:Shared} {b:Addr} (I:Inv X pins σ H s) (hb:s.heap.objs.size≤b) (hn:H' b=none):FpOk X pins H' b:=by
 refine ⟨hn,Nat.ne_of_gt (Nat.lt_of_lt_of_le I.lt hb),I.nofs hb,.inr (Nat.le_trans I.sz hb),fun x c e z=>?_,fun p hp z=>?_⟩
 ·obtain ⟨v,q⟩:=I.cell x c e
  exact absurd (Nat.lt_of_lt_of_le q.lt (by rw [z];exact hb)) (Nat.lt_irrefl _)
 ·exact absurd (Nat.lt_of_lt_of_le (Heap.lt_size (I.pin p hp).1) (by rw [z];exact hb)) (Nat.lt_irrefl _)
structure Turn (P:Program) (w:World) (K:PySem.W.Frag) (tg:Expr) (J:It) (fp:List Addr) (it:Addr) (tn:Nat→Heap→Prop):Prop where
 mem:it∈fp
 obj:∀ i h,tn i h→∀ b∈fp,∃ o,h.get? b=some o∧∀ v,o.data≠.cell v
 keep:∀ i h h',tn i h→(∀ b∈fp,∀ o,h.get? b=some o→h'.get? b=some o)→tn i h'
 item:∀ (X:Cx),X.prog=P→X.w=w→X.K=K→X.calm=true→∀ (i:Nat) (pins:List (Addr × Obj)) (s:Shared) (σ:St) (H:Hp) (E:Value→Shared→Prop),Inv X pins σ H s→(∀ b∈fp,FpOk X pins H b)→tn i s.heap→J.go i H →
  wpAny (model P w) X.A (pyNext (.ref it)) (fun r s1=>∃ u,r=some u ∧
   wpAny (model P w) X.A (letOwnedTupleGo tg (.ref it) u) (fun _ s2=>∃ x H',Inv X pins σ H' s2∧RelV x u∧J.yld i H x H'∧tn (i + 1) s2.heap∧∀ b∈fp,H' b=none) E s1) E s
 done:∀ (X:Cx),X.prog=P→X.w=w→X.K=K→X.calm=true→∀ (i:Nat) (pins:List (Addr × Obj)) (s:Shared) (σ:St) (H:Hp) (E:Value→Shared→Prop),Inv X pins σ H s→(∀ b∈fp,FpOk X pins H b)→tn i s.heap→J.stop i H →
  wpAny (model P w) X.A (pyNext (.ref it)) (fun r s1=>r=none∧Inv X pins σ H s1) E s
 self:∀ (A:Around) (i:Nat) (s:Shared) (Q:Value→Shared→Prop) (E:Value→Shared→Prop),tn i s.heap→Q (.ref it) s→wpAny (model P w) A (pyIter (.ref it)) Q E s
abbrev TI:=St→Hp→(It→Hp→Prop)→Prop
def PIE (X:Cx) (pins:List (Addr × Obj)) (σ:St) (tg:Expr) (R:It→Hp→Prop) (itv:Value) (s2:Shared):Prop:=
 ∃ (it:Addr) (fp:List Addr) (tn:Nat→Heap→Prop) (J:It) (H':Hp),itv=.ref it∧Inv X pins σ H' s2∧Turn X.prog X.w X.K tg J fp it tn∧tn 0 s2.heap∧(∀ b∈fp,FpOk X pins H' b)∧R J H'
def PI (X:Cx) (tg iter:Expr) (wi:TI):Prop:=
 ∀ (pins:List (Addr × Obj)) (s:Shared) (σ:St) (H:Hp) (R:It→Hp→Prop),Inv X pins σ H s→wi σ H R →
  wpAny (model X.prog X.w) X.A (eval iter X.env) (fun v s1=>wpAny (model X.prog X.w) X.A (pyIter v) (PIE X pins σ tg R) X.xe s1) X.xe s
theorem go_of {M:Model} {A:Around} {E:Value→Shared→Prop} {s:Shared} {tg:Expr} {it:Addr} {u:Value} {o:Obj} {n:String} {vs:Array Value} {Q:Unit→Shared→Prop} (ho:s.heap.get? it=some o) (hc:o.cls=.type n) (hd:o.data=.fields vs)
  (hn:["enumerate","zip","dict_itemiterator","dict_reverseitemiterator","odict_iterator","itertools.zip_longest","itertools.pairwise"].contains n=false) (hQ:Q () s):wpAny M A (letOwnedTupleGo tg (.ref it) u) Q E s:=by
 unfold letOwnedTupleGo
 cases tg <;> first
  | exact wpAny_pure hQ
  | (cases u <;> first
    | exact wpAny_pure hQ
    | (refine wpAny_bind (wpAny_load ho ?_)
       rw [hc,hd]
       show wpAny M A (if (["enumerate","zip","dict_itemiterator","dict_reverseitemiterator","odict_iterator","itertools.zip_longest","itertools.pairwise"].contains n && vs[0]? == some (rawInt _))=true then _ else _) Q E s
       rw [if_neg (by intro h;rw [hn,Bool.false_and] at h;cases h)]
       exact wpAny_pure hQ))
def Itl (K:PySem.W.Frag) (a:Addr):It:=
 ⟨fun i H=>∃ xs x,SqL K H a xs∧xs[i]?=some x,fun i H x H'=>H'=H∧∀ xs,SqL K H a xs→xs[i]?=some x,fun i H=>∃ xs,SqL K H a xs∧xs.length≤i⟩
def Itt (K:PySem.W.Frag) (a:Addr):It:=
 ⟨fun i H=>∃ xs x,SqT K H a xs∧xs[i]?=some x,fun i H x H'=>H'=H∧∀ xs,SqT K H a xs→xs[i]?=some x,fun i H=>∃ xs,SqT K H a xs∧xs.length≤i⟩
def Itr (lo:Int) (n:Nat):It:=⟨fun i _=>i < n,fun i H x H'=>H'=H∧x=.int (lo + i),fun i _=>n≤i⟩
theorem turn_list {P:Program} {w:World} {K:PySem.W.Frag} {tg:Expr} (a it:Addr):Turn P w K tg (Itl K a) [it] it (fun i h=>h.IsListIter it a i) where
 mem:=by simp
 obj:=fun i h st b hb=>by
  have e:b=it:=by simpa using hb
  subst e
  obtain ⟨o,e,c,d⟩:=st
  exact ⟨o,e,fun v z=>by rw [d] at z;cases z⟩
 keep:=fun i h h' st k=>st.at fun o e=>k it (by simp) o e
 item:=by
  intro X hP hw hK hc i pins s σ H E I hf st hg
  subst hP hw hK
  obtain ⟨xs,x,hq,hx⟩:=hg
  obtain ⟨its,rv,p,hz⟩:=I.list hq
  obtain ⟨u,hu,ru⟩:=rv.get hx
  obtain ⟨f0,f1,f2,f3,f4,f5⟩:=hf it (by simp)
  refine wpAny_pyNext_list_item st p.isList (x:=u) (by simpa using hu) fun h' st' sb=>?_
  have I1:Inv X pins σ H { s with heap:=h' }:=I.turned (t':=s.toks) (fun b o hb e=>(sb.2 b hb).trans e) f0 f1 f3 f4 f5
  obtain ⟨o,e,c,d⟩:=id st'
  exact ⟨u,rfl,go_of (s:={ s with heap:=h' }) e c d (by decide) ⟨x,H,I1,ru,⟨rfl,fun ys hy=>by rw [I.list_inj hy hq];exact hx⟩,st',fun b hb=>(hf b hb).1⟩⟩
 done:=by
  intro X hP hw hK hc i pins s σ H E I hf st hg
  subst hP hw hK
  obtain ⟨xs,hq,hx⟩:=hg
  obtain ⟨its,rv,p,hz⟩:=I.list hq
  obtain ⟨f0,f1,f2,f3,f4,f5⟩:=hf it (by simp)
  have hl:=rv.length
  exact wpAny_pyNext_list_end (I.ok.hd hc) st p.isList (by simp;omega) fun h' eb=>⟨rfl,I.turned (t':=s.toks) (fun b o hb e=>eb b o hb e) f0 f1 f3 f4 f5⟩
 self:=fun _ _ _ _ _ st h=>wpAny_pyIter_listiter st h
theorem turn_tuple {P:Program} {w:World} {K:PySem.W.Frag} {tg:Expr} (a it:Addr):Turn P w K tg (Itt K a) [it] it (fun i h=>h.IsTupleIter it a i) where
 mem:=by simp
 obj:=fun i h st b hb=>by
  have e:b=it:=by simpa using hb
  subst e
  obtain ⟨o,e,c,d⟩:=st
  exact ⟨o,e,fun v z=>by rw [d] at z;cases z⟩
 keep:=fun i h h' st k=>st.at fun o e=>k it (by simp) o e
 item:=by
  intro X hP hw hK hc i pins s σ H E I hf st hg
  subst hP hw hK
  obtain ⟨xs,x,hq,hx⟩:=hg
  obtain ⟨its,rv,p,hz⟩:=I.tuple hq
  obtain ⟨u,hu,ru⟩:=rv.get hx
  obtain ⟨f0,f1,f2,f3,f4,f5⟩:=hf it (by simp)
  refine wpAny_pyNext_tuple_item st (show s.heap.IsTuple a its.toArray from p) (x:=u) (by simpa using hu) fun h' st' sb=>?_
  have I1:Inv X pins σ H { s with heap:=h' }:=I.turned (t':=s.toks) (fun b o hb e=>(sb.2 b hb).trans e) f0 f1 f3 f4 f5
  obtain ⟨o,e,c,d⟩:=id st'
  exact ⟨u,rfl,go_of (s:={ s with heap:=h' }) e c d (by decide) ⟨x,H,I1,ru,⟨rfl,fun ys hy=>by rw [I.tuple_inj hy hq];exact hx⟩,st',fun b hb=>(hf b hb).1⟩⟩
 done:=by
  intro X hP hw hK hc i pins s σ H E I hf st hg
  subst hP hw hK
  obtain ⟨xs,hq,hx⟩:=hg
  obtain ⟨its,rv,p,hz⟩:=I.tuple hq
  obtain ⟨f0,f1,f2,f3,f4,f5⟩:=hf it (by simp)
  have hl:=rv.length
  exact wpAny_pyNext_tuple_end (I.ok.hd hc) st (show s.heap.IsTuple a its.toArray from p) (by simp;omega) fun h' eb=>⟨rfl,I.turned (t':=s.toks) (fun b o hb e=>eb b o hb e) f0 f1 f3 f4 f5⟩
 self:=fun _ _ _ _ _ st h=>wpAny_pyIter_tupleiter st h
theorem turn_range {P:Program} {w:World} {K:PySem.W.Frag} {tg:Expr} (it:Addr) (lo:Int) (n:Nat):Turn P w K tg (Itr lo n) [it] it (fun i h=>IsRangeIter h it (lo + (i:Nat) * 1) ((n:Int) - (i:Nat)) 1) where
 mem:=by simp
 obj:=fun i h st b hb=>by
  have e:b=it:=by simpa using hb
  subst e
  exact ⟨_,st,fun v z=>by
   have z':Data.fields _=Data.cell v:=z
   cases z'⟩
 keep:=fun i h h' st k=>k it (by simp) _ st
 item:=by
  intro X hP hw hK hc i pins s σ H E I hf st hg
  subst hP hw hK
  obtain ⟨f0,f1,f2,f3,f4,f5⟩:=hf it (by simp)
  have W:=Walks.range (prog:=X.prog) (w:=X.w) (I.ok.hd hc) it lo 1 n
  refine W.item i s _ _ hg st fun v h' tk hv st' kk=>?_
  obtain ⟨t,rfl⟩:=hv
  have I1:Inv X pins σ H { s with heap:=h',toks:=tk }:=I.turned (fun b o hb e=>kk b o (by simpa using hb) e) f0 f1 f3 f4 f5
  refine ⟨_,rfl,go_of (s:={ s with heap:=h',toks:=tk }) (n:="range_iterator") st' rfl rfl (by decide) ⟨.int (lo + i),H,I1,⟨t,?_⟩,⟨rfl,rfl⟩,st',fun b hb=>(hf b hb).1⟩⟩
  rw [Int.mul_one]
 done:=by
  intro X hP hw hK hc i pins s σ H E I hf st hg
  subst hP hw hK
  obtain ⟨f0,f1,f2,f3,f4,f5⟩:=hf it (by simp)
  exact wpAny_pyNext_range_end (I.ok.hd hc) st (by have:n≤i:=hg;omega) fun h' eb=>⟨rfl,I.turned (t':=s.toks) (fun b o hb e=>eb b o hb e) f0 f1 f3 f4 f5⟩
 self:=fun _ _ _ _ _ st h=>wpAny_pyIter_rangeiter st h
end L2
namespace L2
open PySem PySem.Spec PyProof.Rows
section
variable {X:Cx} {tg:Expr}
def iList (K:PySem.W.Frag) (tl:TE):TI:=fun σ H R=>tl σ H fun x H1=>∃ a,x=.ref a∧(∃ xs,SqL K H1 a xs)∧R (Itl K a) H1
def iTup (K:PySem.W.Frag) (tl:TE):TI:=fun σ H R=>tl σ H fun x H1=>∃ a,x=.ref a∧(∃ xs,SqT K H1 a xs)∧R (Itt K a) H1
theorem pi_list {l:Expr} {tl:TE} (hl:PE X l tl):PI X tg l (iList X.K tl):=by
 intro pins s σ H R I h
 refine thn (hl pins s σ H _ I h) fun v s1 ⟨x,H1,I1,r1,q1⟩=>?_
 obtain ⟨a,e,⟨xs,hq⟩,q⟩:=q1
 subst e
 cases r1
 obtain ⟨its,rv,p,hz⟩:=I1.list hq
 refine wpAny_pyIter_list p.isList ?_
 refine ⟨s1.heap.objs.size,[s1.heap.objs.size],_,_,H1,rfl,I1.kept (t':=s1.toks) fun b o e=>Heap.get?_push_of_some _ e,turn_list a _,⟨_,Heap.get?_push_size _ rfl,rfl,rfl⟩,fun b hb=>?_,q⟩
 have e:b=s1.heap.objs.size:=by simpa using hb
 subst e
 exact I1.fpOk (Nat.le_refl _) (I1.hok.fresh (Nat.le_refl _))
theorem pi_tup {l:Expr} {tl:TE} (hl:PE X l tl):PI X tg l (iTup X.K tl):=by
 intro pins s σ H R I h
 refine thn (hl pins s σ H _ I h) fun v s1 ⟨x,H1,I1,r1,q1⟩=>?_
 obtain ⟨a,e,⟨xs,hq⟩,q⟩:=q1
 subst e
 cases r1
 obtain ⟨its,rv,p,hz⟩:=I1.tuple hq
 refine wpAny_pyIter_tuple (show s1.heap.IsTuple a its.toArray from p) ?_
 refine ⟨s1.heap.objs.size,[s1.heap.objs.size],_,_,H1,rfl,I1.kept (t':=s1.toks) fun b o e=>Heap.get?_push_of_some _ e,turn_tuple a _,⟨_,Heap.get?_push_size _ rfl,rfl,rfl⟩,fun b hb=>?_,q⟩
 have e:b=s1.heap.objs.size:=by simpa using hb
 subst e
 exact I1.fpOk (Nat.le_refl _) (I1.hok.fresh (Nat.le_refl _))
theorem range_it {pins:List (Addr × Obj)} {σ:St} {H:Hp} {s:Shared} {R:It→Hp→Prop} {E:Value→Shared→Prop} {lo hi:Int} {t u v:Tok} {tk:Nat} (I:Inv X pins σ H s) (h1:-(2 ^ 62)≤lo) (h2:lo < 2 ^ 62) (h3:-(2 ^ 62)≤hi) (h4:hi < 2 ^ 62)
  (q:R (Itr lo (hi - lo).toNat) H):wpAny (model X.prog X.w) X.A (pyIter (.ref s.heap.objs.size)) (PIE X pins σ tg R) E { s with heap:=s.heap.push { cls:=.type "range",data:=.fields #[.int lo t,.int hi u,.int 1 v] },toks:=tk }:=by
 refine wpAny_pyIter_range (IsRange.new ..) (small_one h1 h2 h3 h4) ?_
 have I1:Inv X pins σ H { s with heap:=s.heap.push { cls:=.type "range",data:=.fields #[.int lo t,.int hi u,.int 1 v] },toks:=tk }:=I.kept fun b o e=>Heap.get?_push_of_some _ e
 refine ⟨(s.heap.push { cls:=.type "range",data:=.fields #[.int lo t,.int hi u,.int 1 v] }).objs.size,[(s.heap.push { cls:=.type "range",data:=.fields #[.int lo t,.int hi u,.int 1 v] }).objs.size],_,_,H,rfl,
  I1.kept (t':=tk) fun b o e=>Heap.get?_push_of_some _ e,turn_range _ lo (hi - lo).toNat,?_,fun b hb=>?_,q⟩
 ·have e1:lo + ((0:Nat):Int) * 1=lo:=by simp
  have e2:(((hi - lo).toNat:Nat):Int) - ((0:Nat):Int)=Builtin.Range.rangeSize lo hi 1:=by rw [rangeSize_one];split <;> omega
  show IsRangeIter _ _ (lo + ((0:Nat):Int) * 1) ((((hi - lo).toNat:Nat):Int) - ((0:Nat):Int)) 1
  rw [e1,e2]
  exact Heap.get?_push_size _ rfl
 ·have e:b=(s.heap.push { cls:=.type "range",data:=.fields #[.int lo t,.int hi u,.int 1 v] }).objs.size:=by simpa using hb
  subst e
  exact I1.fpOk (Nat.le_refl _) (I1.hok.fresh (Nat.le_refl _))
def iRng1 (ta:TA):TI:=fun σ H R=>ta σ H fun vs H1=>∃ j:Int,vs=[.int j]∧-(2 ^ 62)≤j∧j < 2 ^ 62∧R (Itr 0 j.toNat) H1
def iRng2 (ta:TA):TI:=fun σ H R=>ta σ H fun vs H1=>∃ i j:Int,vs=[.int i,.int j]∧(-(2 ^ 62)≤i∧i < 2 ^ 62∧-(2 ^ 62)≤j∧j < 2 ^ 62)∧R (Itr i (j - i).toNat) H1
theorem pi_range1 {a:Expr} {ta:TA} {p pos:Pos} (hg:Gl X "range") (hm:X.mg "range" = none) (ha:PA X [a] ta) (hs:starEach [a] X.env=[(false,eval a X.env)]:=by rfl):PI X tg (.Call (.Name "range" p) [a] [] pos) (iRng1 ta):=by
 intro pins s σ H R I h
 refine Call_ (ld_blt I hg hm boot_range (PyProof.Rows.callWith_type1 (thn (ha pos pins s σ H _ I h) fun us s1 ⟨vs,H1,I1,r1,q1⟩=>?_) hs rfl))
 obtain ⟨j,e,q1,q2,q⟩:=q1
 subst e
 cases r1 with
 | cons r rr=>
  cases rr
  obtain ⟨t,rfl⟩:=r
  exact call_range_1 (range_it I1 (by omega) (by omega) q1 q2 (by simpa using q))
def tFor (wi:TI) (g:TG) (tb:TS):TS:=fun D σ H=>wi σ H fun J H1=>∃ W:Nat→Nat→St→Hp→Prop,(∃ m,W 0 m σ H1)∧∀ i m σ H,W i m σ H →
 (J.stop i H∧D.nx σ H)∨(J.go i H∧∃ N:St→Hp→Prop,(∀ σ' H',N σ' H'→∃ m',m' < m∧W (i + 1) m' σ' H')∧∀ x H',J.yld i H x H'→g x σ H' fun σ2 H2=>tb { D with nx:=N,ct:=N,bk:=D.nx } σ2 H2)
def pinsAt (fp:List Addr) (h:Heap):List (Addr × Obj):=fp.filterMap fun b=>(h.get? b).map fun o=>(b,o)
theorem mem_pinsAt {fp:List Addr} {h:Heap} {b:Addr} {o:Obj} (hb:b∈fp) (e:h.get? b=some o):(b,o)∈pinsAt fp h:=List.mem_filterMap.mpr ⟨b,hb,by rw [e];rfl⟩
theorem of_pinsAt {fp:List Addr} {h:Heap} {p:Addr × Obj} (hp:p∈pinsAt fp h):p.1∈fp∧h.get? p.1=some p.2:=by
 obtain ⟨b,hb,e⟩:=List.mem_filterMap.mp hp
 cases q:h.get? b with
 | none=>rw [q] at e;cases e
 | some o=>
  rw [q] at e
  have e':(b,o)=p:=Option.some.inj e
  subst e'
  exact ⟨hb,q⟩
theorem Inv.pinned {pins:List (Addr × Obj)} {σ:St} {H:Hp} {s:Shared} {fp:List Addr} (I:Inv X pins σ H s) (hf:∀ b∈fp,FpOk X pins H b) (ho:∀ b∈fp,∃ o,s.heap.get? b=some o∧∀ v,o.data≠.cell v):Inv X (pins ++ pinsAt fp s.heap) σ H s:=
 I.pins_of fun p hp=>(List.mem_append.mp hp).elim (fun z=>I.pin p (List.mem_append_right _ z)) fun z=>by
  obtain ⟨hb,e⟩:=of_pinsAt z
  obtain ⟨f0,f1,f2,_⟩:=hf p.1 hb
  obtain ⟨o,e',d⟩:=ho p.1 hb
  rw [e] at e';cases e'
  exact ⟨e,f0,f1,f2,d⟩
theorem Inv.unpinned {pins pl:List (Addr × Obj)} {σ:St} {H:Hp} {s:Shared} (I:Inv X (pins ++ pl) σ H s):Inv X pins σ H s:=I.pins_of fun p hp=>I.pin p (List.mem_append_right _ (List.mem_append_left _ hp))
theorem ps_for {iter:Expr} {body:List Stmt} {wi:TI} {g:TG} {tb:TS} {pos:Pos} (hp:PassesOwn (model X.prog X.w) X.A X.env X.xe) (hc:X.calm=true) (hi:PI X tg iter wi) (hg:PG X tg g) (hb:PSs X body tb)
  (hs:∀ x,foldedSetIterable iter X.env x=pure x:=by intro _;rfl):PS X (.For tg iter body [] pos) (tFor wi g tb):=by
 intro pins s σ H D I h
 refine wpAny_For (thn (hi pins s σ H _ I h) fun v s1 h1=>thn h1 fun itv s2 h2=>?_) hs
 obtain ⟨it,fp,tn,J,H2,e,I2,T,st2,f2,W,⟨m0,w0⟩,turn⟩:=h2
 subst e
 -- what stays true of the iterator's objects through the loop
 have stat:∀ {H':Hp},(∀ b∈fp,H' b=none)→∀ b∈fp,FpOk X pins H' b:=fun hn b hb=>⟨hn b hb,(f2 b hb).2⟩
 refine codeAny_forLoop_any (fun n s'=>∃ i σ' H',Inv X pins σ' H' s'∧tn i s'.heap∧(∀ b∈fp,H' b=none)∧W i n σ' H') ?_ m0 ⟨0,σ,H2,I2,st2,fun b hb=>(f2 b hb).1,w0⟩
 rintro n s3 ⟨i,σ3,H3,I3,st3,fr3,w3⟩
 rcases turn i n σ3 H3 w3 with ⟨stop,qn⟩ | ⟨go,N,hN,step⟩
 ·refine wpAny_passesOwn hp (thn (T.done X rfl rfl rfl hc i pins s3 σ3 H3 X.xe I3 (stat fr3) st3 stop) fun r s4 ⟨hr,I4⟩=>?_)
  subst hr
  exact wpAny_execs_nil ⟨σ3,H3,I4,qn⟩
 ·refine wpAny_passesOwn hp (thn (T.item X rfl rfl rfl hc i pins s3 σ3 H3 X.xe I3 (stat fr3) st3 go) fun r s4 ⟨u,hr,h4⟩=>?_)
  subst hr
  refine wpAny_passesOwn hp (thn h4 fun _ s5 ⟨x,H5,I5,r5,y5,st5,fr5⟩=>?_)
  have I5':=I5.pinned (stat fr5) (T.obj _ _ st5)
  refine wpAny_passesOwn hp (thn (hg _ s5 σ3 H5 x u _ I5' r5 (step x H5 y5)) fun _ s6 ⟨σ6,H6,I6,q6⟩=>?_)
  refine wpAny_passesOwn hp (thn (hb _ s6 σ6 H6 _ I6 q6) fun f s7 q7=>?_)
  have again:∀ {σ7:St} {H7:Hp},Inv X (pins ++ pinsAt fp s5.heap) σ7 H7 s7→N σ7 H7→∃ m,m < n∧∃ i σ' H',Inv X pins σ' H' s7∧tn i s7.heap∧(∀ b∈fp,H' b=none)∧W i m σ' H':=fun {σ7 H7} I7 n7=>by
   obtain ⟨m',hm,w7⟩:=hN σ7 H7 n7
   refine ⟨m',hm,i + 1,σ7,H7,I7.unpinned,T.keep _ _ _ st5 fun b hb o e=>(I7.pin (b,o) (List.mem_append_right _ (List.mem_append_right _ (mem_pinsAt hb e)))).1,fun b hb=>?_,w7⟩
   obtain ⟨o,e,d⟩:=T.obj _ _ st5 b hb
   exact (I7.pin (b,o) (List.mem_append_right _ (List.mem_append_right _ (mem_pinsAt hb e)))).2.1
  cases f with
  | next=>obtain ⟨σ7,H7,I7,n7⟩:=q7;exact again I7 n7
  | cont=>obtain ⟨σ7,H7,I7,n7⟩:=q7;exact again I7 n7
  | brk=>obtain ⟨σ7,H7,I7,q7⟩:=q7;exact ⟨σ7,H7,I7.unpinned,q7⟩
  | ret v=>obtain ⟨x7,σ7,H7,I7,r7,q7⟩:=q7;exact ⟨x7,σ7,H7,I7.unpinned,r7,q7⟩
end
theorem for_list {K:PySem.W.Frag} {a:Addr} {xs:List V} {g:TG} {tb:TS} {D:Ends} {σ:St} {H:Hp} (Pv:Nat→St→Hp→Prop) (h0:Pv 0 σ H) (hl:∀ i σ H,i≤xs.length→Pv i σ H→SqL K H a xs)
  (hs:∀ i x σ H,xs[i]?=some x→Pv i σ H→g x σ H fun σ2 H2=>tb { D with nx:=Pv (i + 1),ct:=Pv (i + 1),bk:=D.nx } σ2 H2) (hd:∀ σ H,Pv xs.length σ H→D.nx σ H) :
  ∃ W:Nat→Nat→St→Hp→Prop,(∃ m,W 0 m σ H)∧∀ i m σ H,W i m σ H →
   ((Itl K a).stop i H∧D.nx σ H)∨((Itl K a).go i H∧∃ N:St→Hp→Prop,(∀ σ' H',N σ' H'→∃ m',m' < m∧W (i + 1) m' σ' H')∧∀ x H',(Itl K a).yld i H x H'→g x σ H' fun σ2 H2=>tb { D with nx:=N,ct:=N,bk:=D.nx } σ2 H2):=by
 refine ⟨fun i m σ H=>m=xs.length - i∧i≤xs.length∧Pv i σ H,⟨xs.length,by simp,Nat.zero_le _,h0⟩,?_⟩
 rintro i m σ H ⟨rfl,hi,p⟩
 have q:=hl i σ H hi p
 by_cases hlt:i < xs.length
 ·refine .inr ⟨⟨xs,xs[i],q,by simp [hlt]⟩,Pv (i + 1),fun σ' H' p'=>⟨xs.length - (i + 1),by omega,rfl,hlt,p'⟩,fun x H' y=>?_⟩
  obtain ⟨e,y⟩:=y
  subst e
  exact hs i x σ _ (y xs q) p
 ·have e:i=xs.length:=by omega
  subst e
  exact .inl ⟨⟨xs,q,Nat.le_refl _⟩,hd σ H p⟩
theorem for_tup {K:PySem.W.Frag} {a:Addr} {xs:List V} {g:TG} {tb:TS} {D:Ends} {σ:St} {H:Hp} (Pv:Nat→St→Hp→Prop) (h0:Pv 0 σ H) (hl:∀ i σ H,i≤xs.length→Pv i σ H→SqT K H a xs)
  (hs:∀ i x σ H,xs[i]?=some x→Pv i σ H→g x σ H fun σ2 H2=>tb { D with nx:=Pv (i + 1),ct:=Pv (i + 1),bk:=D.nx } σ2 H2) (hd:∀ σ H,Pv xs.length σ H→D.nx σ H) :
  ∃ W:Nat→Nat→St→Hp→Prop,(∃ m,W 0 m σ H)∧∀ i m σ H,W i m σ H →
   ((Itt K a).stop i H∧D.nx σ H)∨((Itt K a).go i H∧∃ N:St→Hp→Prop,(∀ σ' H',N σ' H'→∃ m',m' < m∧W (i + 1) m' σ' H')∧∀ x H',(Itt K a).yld i H x H'→g x σ H' fun σ2 H2=>tb { D with nx:=N,ct:=N,bk:=D.nx } σ2 H2):=by
 refine ⟨fun i m σ H=>m=xs.length - i∧i≤xs.length∧Pv i σ H,⟨xs.length,by simp,Nat.zero_le _,h0⟩,?_⟩
 rintro i m σ H ⟨rfl,hi,p⟩
 have q:=hl i σ H hi p
 by_cases hlt:i < xs.length
 ·refine .inr ⟨⟨xs,xs[i],q,by simp [hlt]⟩,Pv (i + 1),fun σ' H' p'=>⟨xs.length - (i + 1),by omega,rfl,hlt,p'⟩,fun x H' y=>?_⟩
  obtain ⟨e,y⟩:=y
  subst e
  exact hs i x σ _ (y xs q) p
 ·have e:i=xs.length:=by omega
  subst e
  exact .inl ⟨⟨xs,q,Nat.le_refl _⟩,hd σ H p⟩
theorem for_range {lo:Int} {n:Nat} {g:TG} {tb:TS} {D:Ends} {σ:St} {H:Hp} (Pv:Nat→St→Hp→Prop) (h0:Pv 0 σ H)
  (hs:∀ i σ H,i < n→Pv i σ H→g (.int (lo + i)) σ H fun σ2 H2=>tb { D with nx:=Pv (i + 1),ct:=Pv (i + 1),bk:=D.nx } σ2 H2) (hd:∀ σ H,Pv n σ H→D.nx σ H) :
  ∃ W:Nat→Nat→St→Hp→Prop,(∃ m,W 0 m σ H)∧∀ i m σ H,W i m σ H →
   ((Itr lo n).stop i H∧D.nx σ H)∨((Itr lo n).go i H∧∃ N:St→Hp→Prop,(∀ σ' H',N σ' H'→∃ m',m' < m∧W (i + 1) m' σ' H')∧∀ x H',(Itr lo n).yld i H x H'→g x σ H' fun σ2 H2=>tb { D with nx:=N,ct:=N,bk:=D.nx } σ2 H2):=by
 refine ⟨fun i m σ H=>m=n - i∧i≤n∧Pv i σ H,⟨n,by simp,Nat.zero_le _,h0⟩,?_⟩
 rintro i m σ H ⟨rfl,hi,p⟩
 by_cases hlt:i < n
 ·refine .inr ⟨hlt,Pv (i + 1),fun σ' H' p'=>⟨n - (i + 1),by omega,rfl,hlt,p'⟩,fun x H' y=>?_⟩
  obtain ⟨e,y⟩:=y
  subst e y
  exact hs i σ _ hlt p
 ·have e:i=n:=by omega
  subst e
  exact .inl ⟨Nat.le_refl _,hd σ H p⟩
end L2
namespace L2
open PySem PySem.Spec PyProof.Rows
abbrev R2:=V→V→Hp→VK→Prop
def OpR (X:Cx) (f:Value→Value→Sem Value) (r:R2):Prop:=
 ∀ (pins:List (Addr × Obj)) (s:Shared) (σ:St) (H:Hp) (x y:V) (v u:Value) (Q:VK),Inv X pins σ H s→RelV x v→RelV y u→r x y H Q →
  wpAny (model X.prog X.w) X.A (f v u) (EP X pins σ Q) X.xe s
def UnR (X:Cx) (f:Value→Sem Value) (r:V→Hp→VK→Prop):Prop:=
 ∀ (pins:List (Addr × Obj)) (s:Shared) (σ:St) (H:Hp) (x:V) (v:Value) (Q:VK),Inv X pins σ H s→RelV x v→r x H Q →
  wpAny (model X.prog X.w) X.A (f v) (EP X pins σ Q) X.xe s
def CallR (X:Cx) (f:Value) (r:List V→Hp→VK→Prop):Prop:=
 ∀ (pins:List (Addr × Obj)) (s:Shared) (σ:St) (H:Hp) (xs:List V) (us:List Value) (Q:VK),Inv X pins σ H s→Vals xs us→r xs H Q →
  wpAny (model X.prog X.w) X.A (call f us) (EP X pins σ Q) X.xe s
def tOp (r:R2) (ta tb:TE):TE:=fun σ H Q=>ta σ H fun x H1=>tb σ H1 fun y H2=>r x y H2 Q
def tUn (r:V→Hp→VK→Prop) (ta:TE):TE:=fun σ H Q=>ta σ H fun x H1=>r x H1 Q
def rI (C:Int→Int→Prop) (g:Int→Int→V):R2:=fun x y H Q=>∃ i j,x=.int i∧y=.int j∧C i j∧Q (g i j) H
def rI0 (g:Int→Int→V):R2:=fun x y H Q=>∃ i j,x=.int i∧y=.int j∧Q (g i j) H
def rU (g:Int→V):V→Hp→VK→Prop:=fun x H Q=>∃ i,x=.int i∧Q (g i) H
section
variable {X:Cx} {a b c:Expr} {ta tb tc:TE} {pos:Pos}
theorem binT (ha:PE X a ta) (hb:PE X b tb) {pins:List (Addr × Obj)} {s:Shared} {σ:St} {H:Hp} {R:V→V→Hp→Prop} (I:Inv X pins σ H s)
  (h:ta σ H fun x H1=>tb σ H1 fun y H2=>R x y H2) {Q:Value→Shared→Prop} {f:Value→Value→Sem Value}
  (hf:∀ v u s2 x y H2,Inv X pins σ H2 s2→RelV x v→RelV y u→R x y H2→wpAny (model X.prog X.w) X.A (f v u) Q X.xe s2) :
  wpAny (model X.prog X.w) X.A (eval a X.env) (fun v s₁=>wpAny (model X.prog X.w) X.A (eval b X.env) (fun u s₂=>wpAny (model X.prog X.w) X.A (f v u) Q X.xe s₂) X.xe s₁) X.xe s:=by
 refine thn (ha pins s σ H _ I h) fun v s1 ⟨x,H1,I1,r1,q1⟩=>?_
 refine thn (hb pins s1 σ H1 _ I1 q1) fun u s2 ⟨y,H2,I2,r2,q2⟩=>?_
 exact hf v u s2 x y H2 I2 r1 r2 q2
theorem pe_op {op:Operator} {r:R2} (ho:OpR X (binaryOp op) r) (ha:PE X a ta) (hb:PE X b tb):PE X (.BinOp a op b pos) (tOp r ta tb):=by
 intro pins s σ H Q I h
 exact wpAny_BinOp (binT ha hb I h fun v u s2 x y H2 I2 rx ry q=>ho pins s2 σ H2 x y v u Q I2 rx ry q)
theorem pe_un {op:UnaryOp} {r:V→Hp→VK→Prop} (ho:UnR X (unaryOp op) r) (ha:PE X a ta):PE X (.UnaryOp op a pos) (tUn r ta):=by
 intro pins s σ H Q I h
 exact UnaryOp_ (thn (ha pins s σ H _ I h) fun v s1 ⟨x,H1,I1,r1,q1⟩=>ho pins s1 σ H1 x v Q I1 r1 q1)
theorem opI {f:Value→Value→Sem Value} {C:Int→Int→Prop} {g:Int→Int→Int}
  (rule:∀ (i j:Int) (t u:Tok) (s:Shared) (Q:Value→Shared→Prop) (E:Value→Shared→Prop),C i j→Q (.int (g i j) s.toks) { s with toks:=s.toks + 1 }→wpAny (model X.prog X.w) X.A (f (.int i t) (.int j u)) Q E s) :
  OpR X f (rI C fun i j=>.int (g i j)):=by
 intro pins s σ H x y v u Q I rx ry h
 obtain ⟨i,j,rfl,rfl,hc,q⟩:=h
 obtain ⟨t,rfl⟩:=rx
 obtain ⟨t',rfl⟩:=ry
 exact rule i j t t' s _ _ hc ⟨.int (g i j),H,I.tok _,⟨_,rfl⟩,q⟩
theorem opI0 {f:Value→Value→Sem Value} {g:Int→Int→Int}
  (rule:∀ (i j:Int) (t u:Tok) (s:Shared) (Q:Value→Shared→Prop) (E:Value→Shared→Prop),Q (.int (g i j) s.toks) { s with toks:=s.toks + 1 }→wpAny (model X.prog X.w) X.A (f (.int i t) (.int j u)) Q E s) :
  OpR X f (rI0 fun i j=>.int (g i j)):=by
 intro pins s σ H x y v u Q I rx ry h
 obtain ⟨i,j,rfl,rfl,q⟩:=h
 obtain ⟨t,rfl⟩:=rx
 obtain ⟨t',rfl⟩:=ry
 exact rule i j t t' s _ _ ⟨.int (g i j),H,I.tok _,⟨_,rfl⟩,q⟩
theorem opB0 {f:Value→Value→Sem Value} {g:Int→Int→Bool}
  (rule:∀ (i j:Int) (t u:Tok) (s:Shared) (Q:Value→Shared→Prop) (E:Value→Shared→Prop),Q (.bool (g i j)) s→wpAny (model X.prog X.w) X.A (f (.int i t) (.int j u)) Q E s) :
  OpR X f (rI0 fun i j=>.bl (g i j)):=by
 intro pins s σ H x y v u Q I rx ry h
 obtain ⟨i,j,rfl,rfl,q⟩:=h
 obtain ⟨t,rfl⟩:=rx
 obtain ⟨t',rfl⟩:=ry
 exact rule i j t t' s _ _ ⟨.bl (g i j),H,I,rfl,q⟩
def CMul (i j:Int):Prop:=(-(2 ^ 64) < i∧i < 2 ^ 64)∨(-(2 ^ 64) < j∧j < 2 ^ 64)
theorem CMul.ok {i j:Int} (h:CMul i j):IntMulOk i j:=by
 rcases h with ⟨h1,h2⟩ | ⟨h1,h2⟩
 ·exact .of_left (intBits_le_64 h1 h2)
 ·exact .of_right (intBits_le_64 h1 h2)
theorem op_add:OpR X (binaryOp .Add) (rI0 fun i j=>.int (i + j)):=opI0 fun _ _ _ _ _ _ _ q=>add_int q
theorem op_sub:OpR X (binaryOp .Sub) (rI0 fun i j=>.int (i - j)):=opI0 fun _ _ _ _ _ _ _ q=>sub_int q
theorem op_mul:OpR X (binaryOp .Mult) (rI CMul fun i j=>.int (i * j)):=opI fun _ _ _ _ _ _ _ hc q=>mul_int q hc.ok
theorem op_mod:OpR X (binaryOp .Mod) (rI (fun _ j=>0 < j) fun i j=>.int (i % j)):=opI fun i j _ _ _ _ _ hc q=>by
 have h1:(0:Int) < j:=hc
 exact mod_int' (by omega) (by rw [Int.fmod_eq_emod_of_nonneg i (by omega)];exact q)
theorem unI {f:Value→Sem Value} {g:Int→Int}
  (rule:∀ (i:Int) (t:Tok) (s:Shared) (Q:Value→Shared→Prop) (E:Value→Shared→Prop),Q (.int (g i) s.toks) { s with toks:=s.toks + 1 }→wpAny (model X.prog X.w) X.A (f (.int i t)) Q E s) :
  UnR X f (rU fun i=>.int (g i)):=by
 intro pins s σ H x v Q I rx h
 obtain ⟨i,rfl,q⟩:=h
 obtain ⟨t,rfl⟩:=rx
 exact rule i t s _ _ ⟨.int (g i),H,I.tok _,⟨_,rfl⟩,q⟩
theorem un_neg:UnR X (unaryOp .USub) (rU fun i=>.int (-i)):=unI fun _ _ _ _ _ q=>neg_int q
end
def scal:V→V→Bool
 | .non,.non=>true | .non,.int _=>true | .int _,.non=>true | .non,.bl _=>true | .bl _,.non=>true | .non,.str _=>true | .str _,.non=>true
 | .int _,.int _=>true | .bl _,.bl _=>true | .str _,.str _=>true | .byt _,.byt _=>true
 | .int _,.str _=>true | .str _,.int _=>true | .bl _,.str _=>true | .str _,.bl _=>true
 | _,_=>false
def rEq:R2:=fun x y H Q=>scal x y=true∧Q (.bl (decide (x=y))) H
def rNe:R2:=fun x y H Q=>scal x y=true∧Q (.bl (!decide (x=y))) H
theorem dec_int {i j:Int}:decide (V.int i=V.int j)=(i == j):=by
 rw [Bool.eq_iff_iff]
 simp
theorem dec_bl {i j:Bool}:decide (V.bl i=V.bl j)=(i == j):=by
 rw [Bool.eq_iff_iff]
 simp
theorem dec_str {i j:Str}:decide (V.str i=V.str j)=(i == j):=by
 rw [Bool.eq_iff_iff]
 simp
theorem dec_byt {i j:Array UInt8}:decide (V.byt i=V.byt j)=(i.toList == j.toList):=by
 rw [Bool.eq_iff_iff]
 cases i
 cases j
 simp
section
variable {X:Cx} {a b c:Expr} {ta tb tc:TE} {pos:Pos}
theorem fin_bl {pins:List (Addr × Obj)} {σ:St} {H:Hp} {s:Shared} {Q:VK} {k k':Bool} (I:Inv X pins σ H s) (q:Q (.bl k) H) (e:k=k'):EP X pins σ Q (.bool k') s:=by
 subst e
 exact ⟨.bl k,H,I,rfl,q⟩
theorem op_eq:OpR X (compareOp .Eq) rEq:=by
 intro pins s σ H x y v u Q I rx ry h
 obtain ⟨hs,q⟩:=h
 cases x with
 | non=>
  cases rx
  cases y with
  | non=>cases ry;exact PySem.EqNone.eq_none_none (fin_bl I q (by simp))
  | bl j=>cases ry;exact PySem.EqNone.eq_none_bool (fin_bl I q (by simp))
  | int j=>obtain ⟨t',rfl⟩:=ry;exact PySem.EqNone.eq_none_int (fin_bl I q (by simp))
  | str j=>obtain ⟨t',rfl⟩:=ry;exact PySem.EqNone.eq_none_str (fin_bl I q (by simp))
  | _=>exact absurd (show false=true from hs) Bool.false_ne_true
 | bl i=>
  cases rx
  cases y with
  | non=>cases ry;exact PySem.EqNone.eq_bool_none (fin_bl I q (by simp))
  | bl j=>cases ry;exact eq_bool (fin_bl I q dec_bl)
  | str j=>obtain ⟨t',rfl⟩:=ry;exact PySem.EqMixed.eq_bool_str (fin_bl I q (by simp))
  | _=>exact absurd (show false=true from hs) Bool.false_ne_true
 | int i=>
  obtain ⟨t,rfl⟩:=rx
  cases y with
  | non=>cases ry;exact PySem.EqNone.eq_int_none (fin_bl I q (by simp))
  | int j=>obtain ⟨t',rfl⟩:=ry;exact eq_int (fin_bl I q dec_int)
  | str j=>obtain ⟨t',rfl⟩:=ry;exact PySem.EqMixed.eq_int_str (fin_bl I q (by simp))
  | _=>exact absurd (show false=true from hs) Bool.false_ne_true
 | str i=>
  obtain ⟨t,rfl⟩:=rx
  cases y with
  | non=>cases ry;exact PySem.EqNone.eq_str_none (fin_bl I q (by simp))
  | bl j=>cases ry;exact PySem.EqMixed.eq_str_bool (fin_bl I q (by simp))
  | int j=>obtain ⟨t',rfl⟩:=ry;exact PySem.EqMixed.eq_str_int (fin_bl I q (by simp))
  | str j=>obtain ⟨t',rfl⟩:=ry;exact eq_str (fin_bl I q dec_str)
  | _=>exact absurd (show false=true from hs) Bool.false_ne_true
 | byt i=>
  obtain ⟨t,rfl⟩:=rx
  cases y with
  | byt j=>obtain ⟨t',rfl⟩:=ry;exact PySem.W.eq_bytes (fin_bl I q dec_byt)
  | _=>exact absurd (show false=true from hs) Bool.false_ne_true
 | _=>cases y <;> exact absurd (show false=true from hs) Bool.false_ne_true
theorem op_ne:OpR X (compareOp .NotEq) rNe:=by
 intro pins s σ H x y v u Q I rx ry h
 obtain ⟨hs,q⟩:=h
 cases x with
 | non=>
  cases rx
  cases y with
  | non=>cases ry;exact PySem.EqNone.ne_none_none (fin_bl I q (by simp))
  | bl j=>cases ry;exact PySem.EqNone.ne_none_bool (fin_bl I q (by simp))
  | int j=>obtain ⟨t',rfl⟩:=ry;exact PySem.EqNone.ne_none_int (fin_bl I q (by simp))
  | str j=>obtain ⟨t',rfl⟩:=ry;exact PySem.EqNone.ne_none_str (fin_bl I q (by simp))
  | _=>exact absurd (show false=true from hs) Bool.false_ne_true
 | bl i=>
  cases rx
  cases y with
  | non=>cases ry;exact PySem.EqNone.ne_bool_none (fin_bl I q (by simp))
  | bl j=>cases ry;exact ne_bool (fin_bl I q (congrArg not dec_bl))
  | str j=>obtain ⟨t',rfl⟩:=ry;exact PySem.EqMixed.ne_bool_str (fin_bl I q (by simp))
  | _=>exact absurd (show false=true from hs) Bool.false_ne_true
 | int i=>
  obtain ⟨t,rfl⟩:=rx
  cases y with
  | non=>cases ry;exact PySem.EqNone.ne_int_none (fin_bl I q (by simp))
  | int j=>obtain ⟨t',rfl⟩:=ry;exact ne_int (fin_bl I q (congrArg not dec_int))
  | str j=>obtain ⟨t',rfl⟩:=ry;exact PySem.EqMixed.ne_int_str (fin_bl I q (by simp))
  | _=>exact absurd (show false=true from hs) Bool.false_ne_true
 | str i=>
  obtain ⟨t,rfl⟩:=rx
  cases y with
  | non=>cases ry;exact PySem.EqNone.ne_str_none (fin_bl I q (by simp))
  | bl j=>cases ry;exact PySem.EqMixed.ne_str_bool (fin_bl I q (by simp))
  | int j=>obtain ⟨t',rfl⟩:=ry;exact PySem.EqMixed.ne_str_int (fin_bl I q (by simp))
  | str j=>obtain ⟨t',rfl⟩:=ry;exact ne_str (fin_bl I q (congrArg not dec_str))
  | _=>exact absurd (show false=true from hs) Bool.false_ne_true
 | byt i=>
  obtain ⟨t,rfl⟩:=rx
  cases y with
  | byt j=>obtain ⟨t',rfl⟩:=ry;exact PySem.W.ne_bytes (fin_bl I q (congrArg not dec_byt))
  | _=>exact absurd (show false=true from hs) Bool.false_ne_true
 | _=>cases y <;> exact absurd (show false=true from hs) Bool.false_ne_true
theorem op_lt:OpR X (compareOp .Lt) (rI0 fun i j=>.bl (decide (i < j))):=opB0 fun _ _ _ _ _ _ _ q=>lt_int q
theorem op_le:OpR X (compareOp .LtE) (rI0 fun i j=>.bl (decide (i≤j))):=opB0 fun _ _ _ _ _ _ _ q=>le_int q
theorem op_gt:OpR X (compareOp .Gt) (rI0 fun i j=>.bl (decide (j < i))):=opB0 fun _ _ _ _ _ _ _ q=>gt_int q
theorem op_ge:OpR X (compareOp .GtE) (rI0 fun i j=>.bl (decide (j≤i))):=opB0 fun _ _ _ _ _ _ _ q=>ge_int q
theorem op_in_str:OpR X (compareOp .In) (fun x y H Q=>∃ i j,x=.str i∧y=.str j∧Q (.bl (!(Builtin.Str.occurrences j i 0 j.length 1).isEmpty)) H):=by
 intro pins s σ H x y v u Q I rx ry h
 obtain ⟨i,j,rfl,rfl,q⟩:=h
 obtain ⟨t,rfl⟩:=rx
 obtain ⟨t',rfl⟩:=ry
 exact in_str (fin_bl I q rfl)
theorem op_notN:OpR X (compareOp .IsNot) (fun x y H Q=>y=.non∧Q (.bl (!decide (x=.non))) H):=by
 intro pins s σ H x y v u Q I rx ry h
 obtain ⟨rfl,q⟩:=h
 cases ry
 refine isnot_none_gen (fin_bl I q ?_)
 cases x <;> first
  | (cases rx;rfl)
  | (obtain ⟨t,rfl⟩:=rx;rfl)
theorem op_notin_str:OpR X (compareOp .NotIn) (fun x y H Q=>∃ i j,x=.str i∧y=.str j∧Q (.bl (!(!(Builtin.Str.occurrences j i 0 j.length 1).isEmpty))) H):=by
 intro pins s σ H x y v u Q I rx ry h
 obtain ⟨i,j,rfl,rfl,q⟩:=h
 obtain ⟨t,rfl⟩:=rx
 obtain ⟨t',rfl⟩:=ry
 exact notIn_str (fin_bl I q rfl)
theorem OpR.or {f:Value→Value→Sem Value} {r r':R2} (h:OpR X f r) (h':OpR X f r'):OpR X f (fun x y H Q=>r x y H Q∨r' x y H Q):=by
 intro pins s σ H x y v u Q I rx ry q
 rcases q with q | q
 ·exact h pins s σ H x y v u Q I rx ry q
 ·exact h' pins s σ H x y v u Q I rx ry q
theorem nomark (b:Expr) {op:CmpOp} (h:op≠.In:=by decide) (h2:op≠.NotIn:=by decide):behindInMarks op b=false:=by
 have e1:(op == CmpOp.In)=false:=by cases op <;> first | rfl | exact absurd rfl h
 have e2:(op == CmpOp.NotIn)=false:=by cases op <;> first | rfl | exact absurd rfl h2
 cases b <;> simp [behindInMarks,e1,e2]
theorem pe_cmpR {op:CmpOp} {r:R2} (ho:OpR X (compareOp op) r) (ha:PE X a ta) (hb:PE X b tb) (hm:behindInMarks op b=false):PE X (.Compare a [op] [b] pos) (tOp r ta tb):=by
 intro pins s σ H Q I h
 exact wpAny_Compare1 (binT ha hb I h fun v u s2 x y H2 I2 rx ry q=>ho pins s2 σ H2 x y v u Q I2 rx ry q) hm
def tTest (t:TE):TT:=fun σ H Q=>t σ H fun x H'=>∃ k,x=.bl k∧Q k H'
theorem pt_cmpR {op:CmpOp} {r:R2} (ho:OpR X (compareOp op) r) (ha:PE X a ta) (hb:PE X b tb) (hm:behindInMarks op b=false):PT X (.Compare a [op] [b] pos) (tTest (tOp r ta tb)):=by
 intro pins s σ H Q I h
 refine wpAny_isTrue_Compare1 (thn (ha pins s σ H _ I h) fun v s1 ⟨x,H1,I1,r1,q1⟩=>thn (hb pins s1 σ H1 _ I1 q1) fun u s2 ⟨y,H2,I2,r2,q2⟩=>
  thn (ho pins s2 σ H2 x y v u _ I2 r1 r2 q2) fun c s3 ⟨z,H3,I3,r3,k,e,q3⟩=>?_) hm
 subst e
 cases r3
 exact wpAny_truthy_bool ⟨H3,I3,q3⟩
def tChain (r r':R2) (ta tb tc:TE):TE:=fun σ H Q=>ta σ H fun x H1=>tb σ H1 fun y H2=>r x y H2 fun z H3=>∃ k,z=.bl k ∧
 (if k=true then tc σ H3 fun w' H4=>r' y w' H4 Q else Q (.bl false) H3)
theorem pe_chain {op op':CmpOp} {r r':R2} (ho:OpR X (compareOp op) r) (ho':OpR X (compareOp op') r') (ha:PE X a ta) (hb:PE X b tb) (hc:PE X c tc)
  (hm:lastMarks [op,op'] [b,c]=false:=by with_unfolding_all rfl):PE X (.Compare a [op,op'] [b,c] pos) (tChain r r' ta tb tc):=by
 intro pins s σ H Q I h
 refine Compare_chain (thn (ha pins s σ H _ I h) fun v s1 ⟨x,H1,I1,r1,q1⟩=>chain_link (thn (hb pins s1 σ H1 _ I1 q1) fun u s2 ⟨y,H2,I2,r2,q2⟩=>
  thn (ho pins s2 σ H2 x y v u _ I2 r1 r2 q2) fun d s3 ⟨z,H3,I3,r3,k,e,q3⟩=>?_)) hm
 subst e
 cases r3
 refine wpAny_truthy_bool ?_
 cases k with
 | false=>exact ite_ff ⟨.bl false,H3,I3,rfl,q3⟩
 | true=>exact ite_tt (chain_last (thn (hc pins s3 σ H3 _ I3 q3) fun w' s4 ⟨z',H4,I4,r4,q4⟩=>ho' pins s4 σ H4 y z' u w' Q I4 r2 r4 q4))
theorem line63:(sizeLine:Nat) < 2 ^ 63:=by rw [sizeLine_eq];decide
theorem op_add_str:OpR X (binaryOp .Add) (fun x y H Q=>∃ i j,x=.str i∧y=.str j∧i.length + j.length≤sizeLine∧Q (.str (i ++ j)) H):=by
 intro pins s σ H x y v u Q I rx ry h
 obtain ⟨i,j,rfl,rfl,hz,q⟩:=h
 obtain ⟨t,rfl⟩:=rx
 obtain ⟨t',rfl⟩:=ry
 exact add_str (fun t' tk=>⟨.str (i ++ j),H,I.tok _,⟨_,rfl⟩,q⟩) hz
theorem vals1 {x:V} {us:List Value} (r:Vals [x] us):∃ u,us=[u]∧RelV x u:=by
 cases r with
 | cons r1 r2=>cases r2;exact ⟨_,rfl,r1⟩
end
end L2
namespace L2
open PySem PySem.Spec PyProof.Rows
structure ObjM (h:Heap) (x dx C:Addr) (mA:Str→Option Value):Prop where
 obj:h.get? x=some (PySem.W.instObj C dx)
 ns:h.Ns1 dx mA
 ne:dx≠x
theorem lookIn_ns {h:Heap} {dx:Addr} {mA:Str→Option Value} (n:h.Ns1 dx mA):∃ od,h.get? dx=some od∧∀ name,PySem.W.lookIn name od=some (mA name):=by
 obtain ⟨o,es,ep,ho,hd,hk,_,hm⟩:=n
 refine ⟨o,ho,fun name=>?_⟩
 have e:=hm name
 unfold nsFind findBy at e
 rw [← Array.find?_toList] at e
 unfold PySem.W.lookIn
 rw [hd]
 dsimp only
 split
 ·rename_i y q
  rw [q] at e
  exact congrArg some e
 ·rename_i q
  rw [q] at e
  have a:es.toList.any (·.refKey)=false:=by
   rw [List.any_eq_false]
   intro y hy
   obtain ⟨z,t,hkey⟩:=hk y (Array.mem_toList_iff.mp hy)
   simp [DictEntry.refKey,hkey]
  have a':¬ es.toList.any (·.refKey)=true:=by rw [a];exact Bool.false_ne_true
  rw [if_neg a']
  exact congrArg some e
theorem ObjM.look {h:Heap} {x dx C:Addr} {mA:Str→Option Value} (I:ObjM h x dx C mA):∃ od,PySem.W.InstAt h x (PySem.W.instObj C dx) C (some od)∧∀ name,PySem.W.lookIn name od=some (mA name):=
 let ⟨od,ho,hl⟩:=lookIn_ns I.ns
 ⟨od,⟨I.obj,rfl,rfl,ho⟩,hl⟩
section
variable {prog:Program} {w:World} {A:Around} {E:Value→Shared→Prop} {s:Shared} {K:PySem.W.Frag} {x dx C f:Addr} {mA:Str→Option Value} {name:Str} {v:Value}
theorem get_map {expr:Bool} {Q:Value→Shared→Prop} (X:K.In s.heap) (I:ObjM s.heap x dx C mA) (hg:PySem.W.plainGet K C name=true) (hh:PySem.W.hasDictIn K C=true)
  (ha:PySem.W.findIn K (.ref C) name=some none) (hv:mA name=some v) (hv':PySem.W.handedIn v=true) (h:Q v { s with toks:=s.toks + 1 }) :
  wpAny (model prog w) A (getAttr (.ref x) name expr) Q E s:=by
 obtain ⟨od,J,hl⟩:=I.look
 exact PySem.W.get_value X J (PySem.W.plainGet_of hg).1 (PySem.W.findObj_own hh ha rfl (by rw [hl,hv])) hv' h
theorem get_meth {pl:Sem Bool} {Q:Value × List Value→Shared→Prop} (X:K.In s.heap) (I:ObjM s.heap x dx C mA) (hg:PySem.W.plainGet K C name=true)
  (hf:PySem.W.findIn K (.ref C) name=some (some (.ref f))) (ht:PySem.W.isFn K (.ref f)=true) (hv:mA name=none) (h:Q (.ref f,[.ref x]) s) :
  wpAny (model prog w) A (getMethod (.ref x) name pl) Q E s:=by
 obtain ⟨od,J,hl⟩:=I.look
 exact PySem.W.method_fn X J (PySem.W.plainGet_of hg).1 (PySem.W.plainGet_of hg).2 hf (beq_iff_eq.mp ht) (by show (PySem.W.lookIn name od).map (·.isSome)=some false;rw [hl,hv];rfl) h
theorem set_map {ns:List Str} {Q:Unit→Shared→Prop} (X:K.In s.heap) (I:ObjM s.heap x dx C mA)
  (hs:PySem.W.findIn K (.ref C) "__setattr__" = some (some (.builtin "object.__setattr__"))) (hp:PySem.W.plainOver K C=true) (ht:PySem.W.takerIn K C name=some none) (hh:PySem.W.hasDictIn K C=true)
  (hw:PySem.Within mA ns) (hsz:ns.length≤sizeLine)
  (h:∀ h',ObjM h' x dx C (fun y=>if y=name then some v else mA y)→Heap.SameBut dx s.heap h'→Q () { s with heap:=h',toks:=s.toks + 2 }) :
  wpAny (model prog w) A (setAttr (.ref x) name v) Q E s:=by
 obtain ⟨od,J,hl⟩:=I.look
 refine PySem.W.set_plain X J hs (PySem.W.osa_open (s:={ s with toks:=s.toks + 1 }) (r:=none) X J hp ht fun b=>?_)
 obtain ⟨cd,hc,hd'⟩:=PySem.W.any_some hh
 have hx:s.heap.get? x=some ⟨.ref C,some dx,.plain,#[]⟩:=I.obj
 refine wpAny_bind (wpAny_pure (wpAny_bind (wpAny_bind (wpAny_loadPart hx (wpAny_bind (PySem.W.Looks.here (s:={ s with toks:=s.toks + 1 }) (PySem.W.looks_clsIn X hc) ?_))))))
 rw [hd']
 refine wpAny_pure (a:=some dx) (wpAny_bind (wpAny_pure (wpAny_bind ?_)))
 refine wpAny_nsSet1 (s:={ s with toks:=s.toks + 1 }) I.ns fun h' hn2 hs2=>?_
 obtain ⟨oD,esD,epD,hoD,hdD,hcD⟩:=hn2.count (PySem.Within.cons name v hw)
 refine wpAny_bind (wpAny_lookBehind hoD (by rw [hdD];exact pastItsLine_dict (Nat.le_trans hcD (by rw [List.length_cons];omega))) ?_)
 exact wpAny_pure (h _ ⟨(hs2.2 _ (Ne.symm I.ne)).trans I.obj,hn2,I.ne⟩ hs2)
theorem make_map {R:Result→Shared→Prop} {vs:List Value} {kw:List (Str × Value)} (X:K.In s.heap) (hm:PySem.W.makesIn K C=true)
  (hi:PySem.W.findIn K (.ref C) "__init__" = some (some (.ref f))) (hf:PySem.W.typeIn K (.ref f)=some (.type "function"))
  (h:codeAny (model prog w) (A.under (.builtin "type.__call__" ⟨.ref C :: vs,kw⟩)) (.call (.ref f) ⟨.ref (s.heap.objs.size + 1) :: vs,kw⟩) (PySem.W.InitBack (s.heap.objs.size + 1) R)
   { s with heap:=(s.heap.push PySem.W.emptyDict).push (PySem.W.instObj C s.heap.objs.size) }) :
  codeAny (model prog w) A (.call (.ref C) ⟨vs,kw⟩) R s:=by
 obtain ⟨hh,g,d,t,os⟩:=s
 exact PySem.W.make_core (PySem.W.makes_of X hm) (PySem.W.looks_findIn X hi) (fun self=>PySem.W.bind_fn X self hf) (.inl rfl) h
end
def putF (f:Str) (v:V):List (Str × V)→List (Str × V)
 | []=>[(f,v)]
 | (g,x) :: r=>if g=f then (g,v) :: r else (g,x) :: putF f v r
theorem lookup_putF (f g:Str) (v:V):∀ fs:List (Str × V),(putF f v fs).lookup g=if g=f then some v else fs.lookup g
 | []=>by
  show List.lookup g [(f,v)]=_
  by_cases h:g=f
  ·have hb:(g == f)=true:=beq_iff_eq.mpr h
   simp only [List.lookup,hb,if_pos h]
  ·have hb:(g == f)=false:=beq_eq_false_iff_ne.mpr h
   simp only [List.lookup,hb,if_neg h]
 | (k,x) :: r=>by
  have ih:=lookup_putF f g v r
  rw [show putF f v ((k,x) :: r)=(if k=f then (k,v) :: r else (k,x) :: putF f v r) from rfl]
  by_cases hk:k=f
  ·rw [if_pos hk]
   by_cases h:g=k
   ·have hb:(g == k)=true:=beq_iff_eq.mpr h
    simp only [List.lookup,hb,if_pos (h.trans hk)]
   ·have hb:(g == k)=false:=beq_eq_false_iff_ne.mpr h
    simp only [List.lookup,hb,if_neg (fun e:g=f=>h (e.trans hk.symm))]
  ·rw [if_neg hk]
   by_cases h:g=k
   ·have hb:(g == k)=true:=beq_iff_eq.mpr h
    simp only [List.lookup,hb,if_neg (fun e:g=f=>hk (h.symm.trans e))]
   ·have hb:(g == k)=false:=beq_eq_false_iff_ne.mpr h
    simp only [List.lookup,hb]
    exact ih
theorem keys_putF (f:Str) (v:V):∀ fs:List (Str × V),f∈(putF f v fs).map (·.1)∧∀ g,g∈fs.map (·.1)→g∈(putF f v fs).map (·.1)
 | []=>⟨by simp [putF],fun g h=>by simp at h⟩
 | (k,x) :: r=>by
  obtain ⟨i1,i2⟩:=keys_putF f v r
  rw [show putF f v ((k,x) :: r)=(if k=f then (k,v) :: r else (k,x) :: putF f v r) from rfl]
  by_cases hk:k=f
  ·rw [if_pos hk]
   subst hk
   exact ⟨by simp,fun g h=>by simpa using h⟩
  ·rw [if_neg hk]
   refine ⟨?_,fun g h=>?_⟩
   ·rw [List.map_cons]
    exact List.mem_cons_of_mem _ i1
   ·rw [List.map_cons] at h ⊢
    rcases List.mem_cons.mp h with e | e
    ·exact List.mem_cons.mpr (.inl e)
    ·exact List.mem_cons_of_mem _ (i2 g e)
theorem length_putF (f:Str) (v:V):∀ fs:List (Str × V),(putF f v fs).length≤fs.length + 1
 | []=>by simp [putF]
 | (k,x) :: r=>by
  have ih:=length_putF f v r
  rw [show putF f v ((k,x) :: r)=(if k=f then (k,v) :: r else (k,x) :: putF f v r) from rfl]
  by_cases hk:k=f
  ·rw [if_pos hk,List.length_cons,List.length_cons];omega
  ·rw [if_neg hk,List.length_cons,List.length_cons];omega
theorem RelO.some_of {v:V} {o:Option Value} (r:RelO (some v) o):∃ u,o=some u∧RelV v u:=by
 cases o with
 | none=>exact (show False from r).elim
 | some u=>exact ⟨u,rfl,r⟩
theorem RelO.none_of {o:Option Value} (r:RelO none o):o=none:=by
 cases o with
 | none=>rfl
 | some u=>exact (show False from r).elim
theorem handed_of {v:V} {u:Value} (r:RelV v u):PySem.W.handedIn u=true:=by
 cases v with
 | non=>cases (show u=Value.none from r);rfl
 | bl b=>cases (show u=Value.bool b from r);rfl
 | int i=>obtain ⟨t,e⟩:=(show ∃ t,u=Value.int i t from r);cases e;rfl
 | str x=>obtain ⟨t,e⟩:=(show ∃ t,u=Value.str x t from r);cases e;rfl
 | byt b=>obtain ⟨t,e⟩:=(show ∃ t,u=Value.bytes b t from r);cases e;rfl
 | flt b=>obtain ⟨t,e⟩:=(show ∃ t,u=Value.float b t from r);cases e;rfl
 | ref a=>cases (show u=Value.ref a from r);rfl
 | ty n=>cases (show u=Value.type n from r);rfl
section
variable {P:Program} {w:World} {H H':Hp} {h h':Heap} {a C dx:Addr} {fs fs':List (Str × V)}
theorem ins_get (hok:HOk P w H h) (e:H a=some (.ins C dx fs)):∃ mA,ObjM h a dx C mA∧(∀ f,RelO (fs.lookup f) (mA f))∧PySem.Within mA (fs.map (·.1))∧fs.length≤1000∧H dx=some (.own a):=by
 obtain ⟨d,z,ne,ob,mA,n,r,q⟩:=(show ObjOk P w H h a (.ins C dx fs) from hok a _ e)
 exact ⟨mA,⟨ob,n,ne⟩,r,q,z,d⟩
end
structure Cls (K:PySem.W.Frag) (C:Addr):Prop where
 pg:PySem.W.plainGet K C Str.empty=true
 hd:PySem.W.hasDictIn K C=true
 po:PySem.W.plainOver K C=true
 sa:PySem.W.findIn K (.ref C) "__setattr__" = some (some (.builtin "object.__setattr__"))
theorem Cls.get {K:PySem.W.Frag} {C:Addr} (c:Cls K C) (f:Str):PySem.W.plainGet K C f=true:=c.pg
def NoAttr (K:PySem.W.Frag) (C:Addr) (f:Str):Prop:=PySem.W.findIn K (.ref C) f=some none
theorem NoAttr.taker {K:PySem.W.Frag} {C:Addr} {f:Str} (n:NoAttr K C f):PySem.W.takerIn K C f=some none:=by
 unfold PySem.W.takerIn
 rw [show PySem.W.findIn K (.ref C) f=some none from n]
 rfl
structure Con (K:PySem.W.Frag) (C:Addr) (f:Str) (v:V) (u:Value):Prop where
 at_:PySem.W.findIn K (.ref C) f=some (some u)
 rel:RelV v u
 get:PySem.W.specialIn K u "__get__" = some none
 cp:PySem.W.copiedNames.contains f=false
structure Meth (K:PySem.W.Frag) (C:Addr) (m:Str) (f:Addr):Prop where
 at_:PySem.W.findIn K (.ref C) m=some (some (.ref f))
 fn:PySem.W.isFn K (.ref f)=true
 kp:PySem.W.keepIn K (.ref f)=true
section
variable {X:Cx} {pins:List (Addr × Obj)} {σ:St} {H:Hp} {s:Shared} {a C dx:Addr} {fs:List (Str × V)} {f:Str} {v:V} {A:Around} {E:Value→Shared→Prop}
theorem getattr_ok {b:Bool} {Q:Value→Shared→Prop} (I:Inv X pins σ H s) (e:H a=some (.ins C dx fs)) (c:Cls X.K C) (n:NoAttr X.K C f) (l:fs.lookup f=some v)
  (h:∀ u s',Inv X pins σ H s'→RelV v u→Q u s'):wpAny (model X.prog X.w) A (getAttr (.ref a) f b) Q E s:=by
 obtain ⟨mA,O,r,_,_,_⟩:=ins_get I.hok e
 obtain ⟨u,hu,ru⟩:=RelO.some_of (v:=v) (o:=mA f) (by rw [← l];exact r f)
 exact get_map I.kIn O (c.get f) c.hd n hu (handed_of ru) (h u _ (I.tok _) ru)
theorem getmeth_ok {m:Str} {g:Addr} {pl:Sem Bool} {Q:Value × List Value→Shared→Prop} (I:Inv X pins σ H s) (e:H a=some (.ins C dx fs)) (c:Cls X.K C) (k:Meth X.K C m g) (l:fs.lookup m=none)
  (h:Q (.ref g,[.ref a]) s):wpAny (model X.prog X.w) A (getMethod (.ref a) m pl) Q E s:=by
 obtain ⟨mA,O,r,_,_,_⟩:=ins_get I.hok e
 have hn:mA m=none:=RelO.none_of (by rw [← l];exact r m)
 exact get_meth I.kIn O (c.get m) k.at_ k.fn hn h
theorem setattr_ok {y:V} {u:Value} {Q:Unit→Shared→Prop} (I:Inv X pins σ H s) (e:H a=some (.ins C dx fs)) (c:Cls X.K C) (n:NoAttr X.K C f) (hl:fs.length < 1000) (ry:RelV y u)
  (h:∀ s',Inv X pins σ (upd H a (.ins C dx (putF f y fs))) s'→Q () s'):wpAny (model X.prog X.w) A (setAttr (.ref a) f u) Q E s:=by
 obtain ⟨mA,O,r,wi,_,ho⟩:=ins_get I.hok e
 have hz:(fs.map (·.1)).length≤sizeLine:=by rw [List.length_map,sizeLine_eq];omega
 refine set_map I.kIn O c.sa c.po n.taker c.hd wi hz fun h' O' sb=>h _ ?_
 have hd:∃ o,h'.get? dx=some o:=let ⟨o,_,_,e',_⟩:=O'.ns;⟨o,e'⟩
 refine I.write (x:=a) (e:=dx) (by rw [e];exact True.intro) (.inr ho) (fun b q hb z=>(sb.2 b hb).trans z) hd ?_
 refine ⟨by rw [upd_ne O.ne];exact ho,?_,O.ne,O'.obj,_,O'.ns,fun g=>?_,fun g hg=>?_⟩
 ·have:=length_putF f y fs;omega
 ·show RelO ((putF f y fs).lookup g) (if g=f then some u else mA g)
  rw [lookup_putF]
  by_cases q:g=f
  ·rw [if_pos q,if_pos q];exact ry
  ·rw [if_neg q,if_neg q];exact r g
 ·by_cases q:g=f
  ·rw [q];exact (keys_putF f y fs).1
  ·refine (keys_putF f y fs).2 g (wi g fun z=>hg ?_)
   show (if g=f then some u else mA g)=none
   rw [if_neg q];exact z
theorem Inv.made (I:Inv X pins σ H s):Inv X pins σ (upd (upd H s.heap.objs.size (.own (s.heap.objs.size + 1))) (s.heap.objs.size + 1) (.ins C s.heap.objs.size []))
  { s with heap:=(s.heap.push PySem.W.emptyDict).push (PySem.W.instObj C s.heap.objs.size) }:=by
 have e1:(s.heap.push PySem.W.emptyDict).get? s.heap.objs.size=some PySem.W.emptyDict:=Heap.get?_push_size s.heap rfl
 have e2:((s.heap.push PySem.W.emptyDict).push (PySem.W.instObj C s.heap.objs.size)).get? (s.heap.objs.size + 1)=some (PySem.W.instObj C s.heap.objs.size):=by
  have:=Heap.get?_push_size (s.heap.push PySem.W.emptyDict) (o:=PySem.W.instObj C s.heap.objs.size) rfl
  rwa [Heap.size_push] at this
 have e3:(s.heap.push PySem.W.emptyDict).Ns s.heap.objs.size (fun _=>none):=⟨PySem.W.emptyDict,#[],_,e1,rfl,(fun e he=>absurd he (by simp)),fun _=>rfl⟩
 have I1:=I.laid (a:=s.heap.objs.size) (o:=.own (s.heap.objs.size + 1)) (h':=s.heap.push PySem.W.emptyDict) (t':=s.toks) (fun b u q=>Heap.get?_push_of_some _ q) (Nat.le_refl _) ⟨_,e1⟩
 refine I1.laid (a:=s.heap.objs.size + 1) (o:=.ins C s.heap.objs.size []) (t':=s.toks) (fun b u q=>Heap.get?_push_of_some _ q) (Nat.le_of_eq (Heap.size_push _ _)) ?_
 have ne:s.heap.objs.size≠s.heap.objs.size + 1:=Nat.ne_of_lt (Nat.lt_succ_self _)
 refine ⟨by rw [upd_ne ne,upd_same],Nat.zero_le _,ne,e2,fun _=>none,(Heap.Ns1.of_empty e3).at fun o q=>Heap.get?_push_of_some _ q,fun _=>True.intro,fun y hy=>absurd rfl hy⟩
theorem attr_of {prog:Program} {w:World} {env:Env} {e:Expr} {f:Str} {pos:Pos} {s:Shared} {Q:Value→Shared→Prop} (hb:attributeBase e f env (eval e env)=eval e env)
  (h:wpAny (model prog w) A (eval e env) (fun o s₁=>wpAny (model prog w) A (getAttr o f true) Q E s₁) E s):wpAny (model prog w) A (eval (.Attribute e f pos) env) Q E s:=
 Attribute_any_ h (by rw [arm_eval_Attribute,hb])
end
def tFld (K:PySem.W.Frag) (ta:TE) (f:Str):TE:=fun σ H Q=>ta σ H fun x H1=>∃ a C dx fs v,x=.ref a∧H1 a=some (.ins C dx fs)∧Cls K C∧NoAttr K C f∧fs.lookup f=some v∧Q v H1
def sFld (K:PySem.W.Frag) (ta tv:TE) (f:Str):TS:=fun D σ H=>tv σ H fun y H1=>ta σ H1 fun x H2=>∃ a C dx fs,x=.ref a∧H2 a=some (.ins C dx fs)∧Cls K C∧NoAttr K C f∧fs.length < 1000 ∧
 D.nx σ (upd H2 a (.ins C dx (putF f y fs)))
section
variable {X:Cx} {o e value:Expr} {f:Str} {pos pos' tpos:Pos} {ta tv:TE}
theorem pe_fld (he:PE X e ta) (hb:attributeBase e f X.env (eval e X.env)=eval e X.env):PE X (.Attribute e f pos) (tFld X.K ta f):=by
 intro pins s σ H Q I h
 refine attr_of hb (thn (he pins s σ H _ I h) fun u s1 ⟨x,H1,I1,rx,a,C,dx,fs,v,ex,ea,c,n,l,q⟩=>?_)
 subst ex
 obtain rfl:u=Value.ref a:=rx
 exact getattr_ok I1 ea c n l fun u' s2 I2 ru=>⟨v,H1,I2,ru,q⟩
theorem ps_fld (ha:PE X o ta) (hv:PE X value tv) (hs:swapsWith value (some (.Attribute o f pos')) pos.line X.env=pure false):PS X (.Assign [.Attribute o f pos'] value pos) (sFld X.K ta tv f):=by
 intro pins s σ H D I h
 refine plainObj_wpAny_Assign_Attribute (thn (hv pins s σ H _ I h) fun u s1 ⟨y,H1,I1,ry,q⟩=>thn (ha pins s1 σ H1 _ I1 q) fun ov s2 ⟨x,H2,I2,rx,a,C,dx,fs,ex,ea,c,n,l,q2⟩=>?_) hs
 subst ex
 obtain rfl:ov=Value.ref a:=rx
 exact setattr_ok I2 ea c n l ry fun s3 I3=>⟨σ,_,I3,q2⟩
end
section
variable {X:Cx} {pins:List (Addr × Obj)} {σ:St} {H:Hp} {s:Shared} {A:Around} {E:Value→Shared→Prop} {Q:Value→Shared→Prop} {c:Value} {b:Bool}
inductive TyOf (K:PySem.W.Frag) (H:Hp):V→Value→Prop where
 | non:TyOf K H .non (.type "NoneType")
 | bl (x:Bool):TyOf K H (.bl x) (.type "bool")
 | int (i:Int):TyOf K H (.int i) (.type "int")
 | str (x:Str):TyOf K H (.str x) (.type "str")
 | flt (x:UInt64):TyOf K H (.flt x) (.type "float")
 | lst {a:Addr} {xs:List V} (e:H a=some (.lst xs)):TyOf K H (.ref a) (.type "list")
 | frz {a:Addr} {o:Obj} {xs:List V} (e:H a=some (.frz o (.lst xs))):TyOf K H (.ref a) (.type "list")
 | tup {a:Addr} {xs:List V} (e:H a=some (.tup xs)):TyOf K H (.ref a) (.type "tuple")
 | dK {a:Addr} {kvs:List (Key × V)} (e:H a=some (.dK kvs)):TyOf K H (.ref a) (.type "dict")
 | dT {a:Addr} {kvs:List (List Key × V)} (e:H a=some (.dT kvs)):TyOf K H (.ref a) (.type "dict")
 | ins {a C dx:Addr} {fs:List (Str × V)} (e:H a=some (.ins C dx fs)) (cl:Cls K C) (ha:PySem.W.findIn K (.ref C) "__class__" = some (some (.builtin "object.__class__")))
   (hn:PySem.W.specialIn K (.builtin "object.__class__") "__get__" = some (some (.builtin "getset_descriptor.__get__"))) (htk:PySem.W.takesIn K (.builtin "object.__class__")=some true)
   (hm:PySem.W.mroIn K C (.type "object")=some true):TyOf K H (.ref a) (.ref C)
theorem isinst_ok {x:V} {u t:Value} (I:Inv X pins σ H s) (rx:RelV x u) (ty:TyOf X.K H x t) (e:PySem.W.kitOne X.K t c=some b) (h:∀ tk,Q (.bool b) { s with toks:=tk }) :
  wpAny (model X.prog X.w) A (call (.builtin "isinstance") [u,c]) Q E s:=by
 cases ty with
 | non=>cases (show u=Value.none from rx);exact PySem.W.kia_one PySem.W.kitx_none I.kIn True.intro e (fun z=>nomatch z) h
 | bl y=>cases (show u=Value.bool y from rx);exact PySem.W.kia_one PySem.W.kitx_bool I.kIn True.intro e (fun z=>nomatch z) h
 | int i=>obtain ⟨t,q⟩:=(show ∃ t,u=Value.int i t from rx);cases q;exact PySem.W.kia_one PySem.W.kitx_int I.kIn True.intro e (fun z=>nomatch z) h
 | str y=>obtain ⟨t,q⟩:=(show ∃ t,u=Value.str y t from rx);cases q;exact PySem.W.kia_one PySem.W.kitx_str I.kIn True.intro e (fun z=>nomatch z) h
 | flt y=>obtain ⟨t,q⟩:=(show ∃ t,u=Value.float y t from rx);cases q;exact PySem.W.kia_one PySem.W.kitx_float I.kIn True.intro e (fun z=>nomatch z) h
 | @lst a xs ea=>
  cases (show u=Value.ref a from rx)
  obtain ⟨_,_,n,_,h1⟩:=(show ObjOk X.prog X.w H s.heap a (.lst xs) from I.hok a _ ea)
  exact PySem.W.kia_one PySem.W.kitx_list I.kIn ⟨_,h1,rfl⟩ e (fun z=>nomatch z) h
 | @frz a ob xs ea=>
  cases (show u=Value.ref a from rx)
  obtain ⟨_,_,_,n,_,h1⟩:=(show ObjOk X.prog X.w H s.heap a (.frz ob (.lst xs)) from I.hok a _ ea)
  exact PySem.W.kia_one PySem.W.kitx_list I.kIn ⟨_,h1,rfl⟩ e (fun z=>nomatch z) h
 | @tup a xs ea=>
  cases (show u=Value.ref a from rx)
  obtain ⟨_,_,_,p⟩:=(show ObjOk X.prog X.w H s.heap a (.tup xs) from I.hok a _ ea)
  obtain ⟨o,h1,h2,_⟩:=p
  exact PySem.W.kia_one PySem.W.kitx_tuple I.kIn ⟨o,h1,h2⟩ e (fun z=>nomatch z) h
 | @dK a kvs ea=>
  cases (show u=Value.ref a from rx)
  obtain ⟨_,_,vs,_,p⟩:=(show ObjOk X.prog X.w H s.heap a (.dK kvs) from I.hok a _ ea)
  obtain ⟨o,es,ep,h1,h2,_⟩:=p
  exact PySem.W.kia_one PySem.W.kitx_dict I.kIn ⟨o,h1,h2.1⟩ e (fun z=>nomatch z) h
 | @dT a kvs ea=>
  cases (show u=Value.ref a from rx)
  obtain ⟨_,_,xs,_,o,es,ep,h1,h2,_⟩:=(show ObjOk X.prog X.w H s.heap a (.dT kvs) from I.hok a _ ea)
  exact PySem.W.kia_one PySem.W.kitx_dict I.kIn ⟨o,h1,h2.1⟩ e (fun z=>nomatch z) h
 | @ins a C dx fs ea cl ha hn htk hm=>
  cases (show u=Value.ref a from rx)
  obtain ⟨mA,O,_⟩:=ins_get I.hok ea
  obtain ⟨od,J,_⟩:=O.look
  exact PySem.W.kia_one (PySem.W.kitx_own (cl.get _) cl.hd ha hn htk hm) I.kIn J e (fun z=>nomatch z) h
end
end L2
namespace L2
open PySem PySem.Spec PyProof.Rows
structure Room (k:Nat) (A:Around):Prop where
 hd:A.handled=none
 dp:A.depth + 3 * k + 5 < recursionLimit
 un:A.units + 16 * k + 200 < cLine
theorem Room.mono {j k:Nat} {A:Around} (r:Room k A) (h:j≤k):Room j A:=⟨r.hd,by have:=r.dp;omega,by have:=r.un;omega⟩
theorem Room.deeper {k:Nat} {A:Around} (r:Room (k + 1) A) (env:Env):Room k (A.deeper env):=
 ⟨r.hd,by have:=r.dp;show A.depth + 1 + 3 * k + 5 < _;omega,by have:=r.un;show A.units + 3 + 16 * k + 200 < _;omega⟩
theorem Room.in1 {k:Nat} {A:Around} (r:Room (k + 1) A):Room k A.in1:=
 ⟨r.hd,by have:=r.dp;show A.depth + 3 * k + 5 < _;omega,by have:=r.un;show A.units + 1 + 16 * k + 200 < _;omega⟩
theorem make_depth {A:Around} {C:Addr} {us:List Value} {kw:List (Str × Value)}:(A.under (.builtin "type.__call__" ⟨.ref C :: us,kw⟩)).depth=A.depth + 1:=by
 first | rfl | simp [Around.under,Code.weight,Code.isCreation,Code.isGuard,Code.isCaller,Code.frames,Code.isFrame,guardIds]
theorem make_units {A:Around} {C:Addr} {us:List Value} {kw:List (Str × Value)}:(A.under (.builtin "type.__call__" ⟨.ref C :: us,kw⟩)).units=A.units + 1:=by
 first | rfl | simp [Around.under,Code.cUnits,Code.frames,Code.isFrame]
theorem Room.make {k:Nat} {A:Around} (r:Room (k + 1) A) (C:Addr) (us:List Value) (kw:List (Str × Value)):Room k (A.under (.builtin "type.__call__" ⟨.ref C :: us,kw⟩)):=
 ⟨r.hd,by have:=r.dp;rw [make_depth];omega,by have:=r.un;rw [make_units];omega⟩
theorem Room.depth {k:Nat} {A:Around} (r:Room k A):A.depth < recursionLimit:=by have:=r.dp;omega
theorem Room.units {k:Nat} {A:Around} (r:Room k A):A.units + 64 < cLine:=by have:=r.un;omega
def tNil:TA:=fun _ H Q=>Q [] H
def tCons (ta:TE) (tr:TA):TA:=fun σ H Q=>ta σ H fun x H1=>tr σ H1 fun xs H2=>Q (x :: xs) H2
section
variable {X:Cx} {e:Expr} {es:List Expr} {te:TE} {t:TA} {pos:Pos}
theorem pa_nil:PA X [] tNil:=fun _ _ _ _ H Q I h=>Calls.spliced_nil ⟨[],H,I,.nil,h⟩
theorem pa_cons (ha:PE X e te) (hr:PA X es t) (hs:starEach (e :: es) X.env=(false,eval e X.env) :: starEach es X.env:=by rfl):PA X (e :: es) (tCons te t):=by
 intro pos pins s σ H Q I h
 rw [hs]
 show wpAny _ _ (spliced ((false,eval e X.env) :: backTo pos (starEach es X.env))) _ _ s
 refine Calls.spliced_cons (thn (ha pins s σ H _ I h) fun u s1 ⟨x,H1,I1,r1,q1⟩=>?_)
 exact thn (hr pos pins s1 σ H1 _ I1 q1) fun us s2 ⟨xs,H2,I2,r2,q2⟩=>⟨x :: xs,H2,I2,.cons r1 r2,q2⟩
def tTup (t:TA):TE:=fun σ H Q=>t σ H fun xs H1=>xs.length≤sizeLine∧∀ p,H1 p=none→Q (.ref p) (upd H1 p (.tup xs))
def tLst (t:TA):TE:=fun σ H Q=>t σ H fun xs H1=>xs.length≤sizeLine∧∀ p,H1 p=none→Q (.ref p) (upd H1 p (.lst xs))
theorem pe_tup {x1} (h:PA X es t):PE X (.Tuple es x1 pos) (tTup t):=by
 intro pins s σ H Q I hq
 refine wpAny_Tuple_spliced (thn (h pos pins s σ H _ I hq) fun us s1 ⟨xs,H1,I1,r,z,q⟩=>⟨by rw [← r.length];exact z,?_⟩)
 have hf:H1 s1.heap.objs.size=none:=I1.hok.fresh (Nat.le_refl _)
 refine ⟨.ref s1.heap.objs.size,upd H1 s1.heap.objs.size (.tup xs),I1.laid (t':=s1.toks) (fun b u e=>Heap.get?_push_of_some _ e) (Nat.le_refl _) ?_,rfl,q _ hf⟩
 exact ⟨z,us,r,⟨_,Heap.get?_push_size _ rfl,rfl,_,rfl⟩⟩
theorem pe_lst (h:PA X es t):PE X (.List es pos) (tLst t):=by
 intro pins s σ H Q I hq
 refine wpAny_List_spliced (thn (h pos pins s σ H _ I hq) fun us s1 ⟨xs,H1,I1,r,z,q⟩=>⟨by rw [← r.length];exact z,?_⟩)
 have hf:H1 s1.heap.objs.size=none:=I1.hok.fresh (Nat.le_refl _)
 refine ⟨.ref s1.heap.objs.size,upd H1 s1.heap.objs.size (.lst xs),I1.laid (t':=s1.toks) (fun b u e=>Heap.get?_push_of_some _ e) (Nat.le_refl _) ?_,rfl,q _ hf⟩
 exact ⟨z,us,0,r,Heap.get?_push_size _ rfl⟩
end
abbrev Sp:=List V→Hp→VK→XK→Prop
abbrev CXT:=List Env→Hp→Shared→XK→Value→Shared→Prop
structure Env0 (P:Program) (w:World) (K:PySem.W.Frag) (mg:Str→Option Value) (base:Heap) (A:Around) (outer:List Env) (s:Shared) (H:Hp):Prop where
 frames:A.frames=some outer
 mod:Mod K mg base
 bs:∀ b o,base.get? b=some o→s.heap.get? b=some o∧H b=none
 bsz:base.objs.size≤s.heap.objs.size
 funs:s.heap.FunFrames base outer
 frf:∀ b∈frs outer,H b=none
 hok:HOk P w H s.heap
 bare:AllBare s.gens
def CE (outer:List Env) (P:Program) (w:World) (H:Hp) (s:Shared) (Q:VK) (u:Value) (s':Shared):Prop:=
 ∃ v H',s'.os=s.os∧AllBare s'.gens∧Un (frs outer) [] H H' s.heap s'.heap∧HOk P w H' s'.heap∧RelV v u∧Q v H'
def CR (CX:CXT) (outer:List Env) (P:Program) (w:World) (H:Hp) (s:Shared) (Q:VK) (E:XK) (r:Result) (s':Shared):Prop:=
 match r with
 | .ok (.ret u)=>CE outer P w H s Q u s'
 | .ok _=>False
 | .error e=>CX outer H s E e s'
structure FnOk (P:Program) (w:World) (K:PySem.W.Frag) (mg:Str→Option Value) (base:Heap) (CX:CXT) (k:Nat) (f:Addr) (fd:FuncData) (ps:List Str) (sp:Sp):Prop where
 len:∀ vs H Q E,sp vs H Q E→vs.length=ps.length
 run:∀ (A:Around) (outer:List Env) (s:Shared) (H:Hp) (args:Args) (us:List Value) (vs:List V) (Q:VK) (E:XK),Room k A→Env0 P w K mg base A outer s H→BindsTo s fd args (ps.zip us)→Vals vs us→sp vs H Q E →
  codeAny (model P w) A (.call (.ref f) args) (CR CX outer P w H s Q E) s
theorem FnOk.mono {P:Program} {w:World} {K:PySem.W.Frag} {mg:Str→Option Value} {base:Heap} {CX:CXT} {j k:Nat} {f:Addr} {fd:FuncData} {ps:List Str} {sp:Sp} (F:FnOk P w K mg base CX j f fd ps sp) (h:j≤k) :
  FnOk P w K mg base CX k f fd ps sp:=⟨F.len,fun A outer s H args us vs Q E hr=>F.run A outer s H args us vs Q E (hr.mono h)⟩
theorem FnOk.imp {P:Program} {w:World} {K:PySem.W.Frag} {mg:Str→Option Value} {base:Heap} {CX:CXT} {k:Nat} {f:Addr} {fd:FuncData} {ps:List Str} {sp sp':Sp} (F:FnOk P w K mg base CX k f fd ps sp)
  (h:∀ vs H Q E,sp' vs H Q E→sp vs H Q E):FnOk P w K mg base CX k f fd ps sp':=
 ⟨fun vs H Q E q=>F.len vs H Q E (h _ _ _ _ q),fun A outer s H args us vs Q E hr he hb hv hs=>F.run A outer s H args us vs Q E hr he hb hv (h _ _ _ _ hs)⟩
theorem Env0.make {P:Program} {w:World} {K:PySem.W.Frag} {mg:Str→Option Value} {base:Heap} {A:Around} {outer:List Env} {s:Shared} {H:Hp} (e:Env0 P w K mg base A outer s H) (C:Addr) (us:List Value) (kw:List (Str × Value)) :
  Env0 P w K mg base (A.under (.builtin "type.__call__" ⟨.ref C :: us,kw⟩)) outer s H:=⟨by first | exact e.frames | (simpa [Around.under,Code.envs,Code.isFrame,pushEnvs] using e.frames),e.mod,e.bs,e.bsz,e.funs,e.frf,e.hok,e.bare⟩
theorem Env0.in1 {P:Program} {w:World} {K:PySem.W.Frag} {mg:Str→Option Value} {base:Heap} {A:Around} {outer:List Env} {s:Shared} {H:Hp} (e:Env0 P w K mg base A outer s H) :
  Env0 P w K mg base A.in1 outer s H:=⟨e.frames,e.mod,e.bs,e.bsz,e.funs,e.frf,e.hok,e.bare⟩
section
variable {X:Cx} {pins:List (Addr × Obj)} {σ:St} {H:Hp} {s s':Shared}
theorem Inv.env0 (I:Inv X pins σ H s):Env0 X.prog X.w X.K X.mg X.base X.A X.stack s H:=
 ⟨I.ok.frames,I.ok.mod,I.bs,Nat.le_trans I.ok.bsz I.sz,I.stack,I.stkFree,I.hok,I.bare⟩
theorem Inv.after {Q:VK} {u:Value} (I:Inv X pins σ H s) (h:CE X.stack X.prog X.w H s Q u s'):EP X pins σ Q u s':=by
 obtain ⟨v,H',os,bare,un,hok,r,q⟩:=h
 obtain ⟨hh,g,d,t,os'⟩:=s'
 obtain rfl:os'=s.os:=os
 exact ⟨v,H',I.call (h':=hh) (g':=g) (d':=d) (t':=t) (ch:=[]) un hok bare (fun b z=>absurd z (by simp)),r,q⟩
end
def tCall (sp:Sp) (dvs:List V) (E:XK) (t:TA):TE:=fun σ H Q=>t σ H fun vs H1=>sp (vs ++ dvs) H1 Q E
def tMeth (C:Addr) (m:Str) (sp:Sp) (dvs:List V) (E:XK) (ta:TE) (t:TA):TE:=fun σ H Q=>ta σ H fun x H1=>∃ a dx fs,x=.ref a∧H1 a=some (.ins C dx fs)∧fs.lookup m=none ∧
 t σ H1 fun vs H2=>sp (x :: (vs ++ dvs)) H2 Q E
def tMake (C:Addr) (sp:Sp) (dvs:List V) (E:XK) (t:TA):TE:=fun σ H Q=>t σ H fun vs H1=>∀ x dx,H1 x=none→H1 dx=none→dx≠x →
 sp (.ref x :: (vs ++ dvs)) (upd (upd H1 dx (.own x)) x (.ins C dx [])) (fun v H2=>v=.non∧Q (.ref x) H2) E
def Binds (K:PySem.W.Frag) (fd:FuncData) (ps:List Str) (ds:List Value):Prop:=
 ∀ (s:Shared) (us:List Value),K.In s.heap→(us ++ ds).length=ps.length→BindsTo s fd ⟨us,[]⟩ (ps.zip (us ++ ds))
theorem Binds.all {K:PySem.W.Frag} {fd:FuncData} {ps:List Str} (h:∀ us:List Value,us.length=ps.length→bindArgs fd ⟨us,[]⟩=pure (ps.zip us)):Binds K fd ps []:=fun s us _ hl=>by
 rw [List.append_nil] at hl ⊢
 exact .of_eq (h us hl)
def Passes (CX:CXT) (X:Cx) (E:XK):Prop:=∀ (pins:List (Addr × Obj)) (σ:St) (H:Hp) (s:Shared) (e:Value) (s':Shared),Inv X pins σ H s→CX X.stack H s E e s'→X.xe e s'
section
variable {X:Cx} {CX:CXT} {k:Nat} {f C:Addr} {fd:FuncData} {ps:List Str} {sp:Sp} {dvs:List V} {ds:List Value} {E:XK} {x m:Str} {p pos apos:Pos} {e o:Expr} {es:List Expr} {ta:TE} {t:TA}
theorem run_fn {pins:List (Addr × Obj)} {σ:St} {H:Hp} {s:Shared} {Q:VK} {us:List Value} {vs:List V} (F:FnOk X.prog X.w X.K X.mg X.base CX k f fd ps sp) (hr:Room k X.A) (hb:Binds X.K fd ps ds) (hd:Vals dvs ds) (hx:Passes CX X E)
  (I:Inv X pins σ H s) (r:Vals vs us) (h:sp (vs ++ dvs) H Q E):wpAny (model X.prog X.w) X.A (call (.ref f) us) (EP X pins σ Q) X.xe s:=by
 have r2:Vals (vs ++ dvs) (us ++ ds):=r.append hd
 have hl:(us ++ ds).length=ps.length:=by rw [← r2.length];exact F.len _ _ _ _ h
 refine wpAny_call (codeAny_mono (F.run X.A X.stack s H ⟨us,[]⟩ (us ++ ds) (vs ++ dvs) Q E hr I.env0 (hb s us I.kIn hl) r2 h) fun r s' hq=>?_)
 cases r with
 | error e=>exact hx pins σ H s e s' I hq
 | ok fl=>
  cases fl with
  | ret u=>exact I.after hq
  | next=>exact False.elim hq
  | brk=>exact False.elim hq
  | cont=>exact False.elim hq
theorem pe_call (F:FnOk X.prog X.w X.K X.mg X.base CX k f fd ps sp) (hr:Room k X.A) (hg:Gl X x) (hm:X.mg x=some (.ref f)) (hk:PySem.W.keepIn X.K (.ref f)=true) (hb:Binds X.K fd ps ds) (hd:Vals dvs ds) (hx:Passes CX X E)
  (ha:PA X (e :: es) t) (hdb:(x == ("__debug__":Str))=false:=by decide) (he:starEach (e :: es) X.env=(false,eval e X.env) :: starEach es X.env:=by rfl) (hpl:(backTo pos (starEach es X.env)).any (·.1)=false:=by rfl) :
  PE X (.Call (.Name x p) (e :: es) [] pos) (tCall sp dvs E t):=by
 intro pins s σ H Q I h
 refine wpAny_Call_Name_kw (ld_glob I hg hm ?_ hdb)
 refine PySem.W.callWith_K (h₀:=X.base) I.ok.mod.kin hk (thn (ha pos pins s σ H _ I h) fun us s1 ⟨vs,H1,I1,r,q⟩=>⟨I1.kIn,?_⟩) he hpl
 exact run_fn F hr hb hd hx I1 r q
theorem pe_meth {pl:Sem Bool} (he:PE X o ta) (c:Cls X.K C) (hm:Meth X.K C m f) (F:FnOk X.prog X.w X.K X.mg X.base CX k f fd ps sp) (hr:Room k X.A) (hb:Binds X.K fd ps ds) (hd:Vals dvs ds) (hx:Passes CX X E) (ha:PA X (e :: es) t)
  (hst:starEach (e :: es) X.env=(false,eval e X.env) :: starEach es X.env:=by rfl) (hpl:(backTo pos (starEach es X.env)).any (·.1)=false:=by rfl)
  (ht:eval (.Call (.Attribute o m apos) (e :: es) [] pos) X.env=(do
   let ov ← eval o X.env
   standAt apos.atName
   let (f,first) ← holding [ov] (getMethod ov m pl)
   callWith pos f first (backTo pos (starEach (e :: es) X.env)) (backToKw pos (keywordEach [] X.env))):=by rfl) :
  PE X (.Call (.Attribute o m apos) (e :: es) [] pos) (tMeth C m sp dvs E ta t):=by
 intro pins s σ H Q I h
 refine PySem.W.methodCall_KW (pl:=pl) (thn (he pins s σ H _ I h) fun u s1 ⟨x,H1,I1,rx,a,dx,fs,ex,ea,l,q⟩=>?_) ht
 subst ex
 obtain rfl:u=Value.ref a:=rx
 refine getmeth_ok I1 ea c hm l ?_
 refine PySem.W.callWith_K (first:=[.ref a]) (h₀:=X.base) I.ok.mod.kin hm.kp (thn (ha pos pins s1 σ H1 _ I1 q) fun us s2 ⟨vs,H2,I2,r,q2⟩=>⟨I2.kIn,?_⟩) hst hpl
 exact run_fn (us:=.ref a :: us) (vs:=.ref a :: vs) F hr hb hd hx I2 (.cons rfl r) q2
theorem pe_meth0 {pl:Sem Bool} (he:PE X o ta) (c:Cls X.K C) (hm:Meth X.K C m f) (F:FnOk X.prog X.w X.K X.mg X.base CX k f fd ps sp) (hr:Room k X.A) (hb:Binds X.K fd ps ds) (hd:Vals dvs ds) (hx:Passes CX X E)
  (ht:eval (.Call (.Attribute o m apos) [] [] pos) X.env=(do
   let ov ← eval o X.env
   standAt apos.atName
   let (f,first) ← holding [ov] (getMethod ov m pl)
   callWith pos f first (backTo pos (starEach [] X.env)) (backToKw pos (keywordEach [] X.env))):=by rfl) :
  PE X (.Call (.Attribute o m apos) [] [] pos) (tMeth C m sp dvs E ta tNil):=by
 intro pins s σ H Q I h
 refine PySem.W.methodCall_KW (pl:=pl) (thn (he pins s σ H _ I h) fun u s1 ⟨x,H1,I1,rx,a,dx,fs,ex,ea,l,q⟩=>?_) ht
 subst ex
 obtain rfl:u=Value.ref a:=rx
 refine getmeth_ok I1 ea c hm l ?_
 exact PySem.W.callWith_K0 (first:=[.ref a]) I1.kIn hm.kp (run_fn (us:=[.ref a]) (vs:=[.ref a]) F hr hb hd hx I1 (.cons rfl .nil) q)
structure Mk (K:PySem.W.Frag) (C f:Addr):Prop where
 makes:PySem.W.makesIn K C=true
 init:PySem.W.findIn K (.ref C) "__init__" = some (some (.ref f))
 fn:PySem.W.isFn K (.ref f)=true
 kp:PySem.W.keepIn K (.ref C)=true
theorem run_make {pins:List (Addr × Obj)} {σ:St} {H:Hp} {s:Shared} {Q:VK} {us:List Value} {vs:List V} (M:Mk X.K C f) (F:FnOk X.prog X.w X.K X.mg X.base CX k f fd ps sp) (hr:Room (k + 1) X.A) (hb:Binds X.K fd ps ds) (hd:Vals dvs ds)
  (hx:Passes CX X E) (I:Inv X pins σ H s) (r:Vals vs us)
  (h:∀ x dx,H x=none→H dx=none→dx≠x→sp (.ref x :: (vs ++ dvs)) (upd (upd H dx (.own x)) x (.ins C dx [])) (fun v H2=>v=.non∧Q (.ref x) H2) E) :
  wpAny (model X.prog X.w) X.A (call (.ref C) us) (EP X pins σ Q) X.xe s:=by
 have hq:=h (s.heap.objs.size + 1) s.heap.objs.size (I.hok.fresh (Nat.le_succ _)) (I.hok.fresh (Nat.le_refl _)) (Nat.ne_of_lt (Nat.lt_succ_self _))
 have I2:=Inv.made (C:=C) I
 have r2:Vals (V.ref (s.heap.objs.size + 1) :: (vs ++ dvs)) (Value.ref (s.heap.objs.size + 1) :: (us ++ ds)):=.cons rfl (r.append hd)
 have hl:(Value.ref (s.heap.objs.size + 1) :: us ++ ds).length=ps.length:=by
  have e:=r2.length
  rw [F.len _ _ _ _ hq] at e
  exact e.symm
 refine wpAny_call (make_map (f:=f) I.kIn M.makes M.init (beq_iff_eq.mp M.fn) (codeAny_mono (F.run _ X.stack _ _ ⟨Value.ref (s.heap.objs.size + 1) :: us,[]⟩ (Value.ref (s.heap.objs.size + 1) :: (us ++ ds)) _ _ E (hr.make C us [])
  (I2.env0.make C us []) (hb _ (Value.ref (s.heap.objs.size + 1) :: us) I2.kIn hl) r2 hq) fun r s' hq'=>?_))
 cases r with
 | error e=>exact hx pins σ _ _ e s' I2 hq'
 | ok fl=>
  cases fl with
  | ret u=>
   obtain ⟨v,H',I3,rv,ev,q3⟩:=I2.after hq'
   subst ev
   exact ⟨rv,⟨V.ref (s.heap.objs.size + 1),H',I3,rfl,q3⟩⟩
  | next=>exact False.elim hq'
  | brk=>exact False.elim hq'
  | cont=>exact False.elim hq'
theorem pe_make (M:Mk X.K C f) (F:FnOk X.prog X.w X.K X.mg X.base CX k f fd ps sp) (hr:Room (k + 1) X.A) (hg:Gl X x) (hm:X.mg x=some (.ref C)) (hb:Binds X.K fd ps ds) (hd:Vals dvs ds) (hx:Passes CX X E)
  (ha:PA X (e :: es) t) (hdb:(x == ("__debug__":Str))=false:=by decide) (he:starEach (e :: es) X.env=(false,eval e X.env) :: starEach es X.env:=by rfl) (hpl:(backTo pos (starEach es X.env)).any (·.1)=false:=by rfl) :
  PE X (.Call (.Name x p) (e :: es) [] pos) (tMake C sp dvs E t):=by
 intro pins s σ H Q I h
 refine wpAny_Call_Name_kw (ld_glob I hg hm ?_ hdb)
 refine PySem.W.callWith_K (h₀:=X.base) I.ok.mod.kin M.kp (thn (ha pos pins s σ H _ I h) fun us s1 ⟨vs,H1,I1,r,q⟩=>⟨I1.kIn,?_⟩) he hpl
 exact run_make M F hr hb hd hx I1 r q
end
def PK (X:Cx) (kws:List Keyword) (t:TA):Prop:=
 ∀ (pos:Pos) (pins:List (Addr × Obj)) (s:Shared) (σ:St) (H:Hp) (Q:List V→Hp→Prop),Inv X pins σ H s→t σ H Q→wpAny (model X.prog X.w) X.A (evalAll ((backToKw pos (keywordEach kws X.env)).map (·.2))) (AP X pins σ Q) X.xe s
section
variable {X:Cx} {CX:CXT} {k:Nat} {f C:Addr} {fd:FuncData} {ps ks:List Str} {sp:Sp} {E:XK} {x m:Str} {p pos apos kpos:Pos} {e o:Expr} {es:List Expr} {kws:List Keyword} {te ta:TE} {t tk:TA} {nm:Option Str}
theorem pk_nil:PK X [] tNil:=fun _ _ _ _ H Q I h=>wpAny_evalAll_nil ⟨[],H,I,.nil,h⟩
theorem pk_cons (ha:PE X e te) (hr:PK X kws t):PK X (⟨nm,e,kpos⟩ :: kws) (tCons te t):=by
 intro pos pins s σ H Q I h
 show wpAny _ _ (evalAll ((do let v ← eval e X.env;standAt pos;pure v) :: (backToKw pos (keywordEach kws X.env)).map (·.2))) _ _ s
 refine wpAny_evalAll_cons (wpAny_bind (thn (ha pins s σ H _ I h) fun u s1 ⟨x,H1,I1,r1,q1⟩=>wpAny_bind (wpAny_standAt (wpAny_pure ?_))))
 exact thn (hr pos pins s1 σ H1 _ I1 q1) fun us s2 ⟨xs,H2,I2,r2,q2⟩=>⟨x :: xs,H2,I2,.cons r1 r2,q2⟩
structure KBinds (K:PySem.W.Frag) (fd:FuncData) (ps ks:List Str) (g:List Value→List Value→List Value) (gV:List V→List V→List V):Prop where
 to:∀ (s:Shared) (us ws:List Value),K.In s.heap→(g us ws).length=ps.length→BindsTo s fd ⟨us,ks.zip ws⟩ (ps.zip (g us ws))
 rel:∀ {vs:List V} {us:List Value} {zs:List V} {ws:List Value},Vals vs us→Vals zs ws→Vals (gV vs zs) (g us ws)
variable {g:List Value→List Value→List Value} {gV:List V→List V→List V}
end
structure FnScope (N P:List Str) (sc:Scope):Prop where
 kind:sc.kind=.function
 co:sc.isCoroutine=false
 gen:sc.isGenerator=false
 nd:N.Nodup
 pre:N.take P.length=P
 par:∀ x∈P,sc.names.lookup x=some .local∨sc.names.lookup x=some .cell
 nofree:∀ y∈sc.names,y.2≠.free
theorem bindL_out {kindOf:Str→Option NameKind} {x:Str}:∀ {binds:List (Str × Value)} {m:Str→Option Value},(∀ v,(x,v) ∉ binds)→bindL kindOf binds m x=m x
 | [],_,_=>rfl
 | (n,v) :: r,m,h=>by
  unfold bindL
  rw [bindL_out fun w hw=>h w (List.mem_cons_of_mem _ hw)]
  split
  ·have:x≠n:=by rintro rfl;exact h v List.mem_cons_self
   simp [this]
  ·rfl
theorem bindC_out {kindOf:Str→Option NameKind} {x:Str}:∀ {binds:List (Str × Value)} {m:Str→Option Value},(∀ v,(x,v) ∉ binds)→bindC kindOf binds m x=m x
 | [],_,_=>rfl
 | (n,v) :: r,m,h=>by
  unfold bindC
  rw [bindC_out fun w hw=>h w (List.mem_cons_of_mem _ hw)]
  split
  ·rfl
  ·have:x≠n:=by rintro rfl;exact h v List.mem_cons_self
   simp [this]
theorem bindL_get {kindOf:Str→Option NameKind} {x:Str} {v:Value}:∀ {P:List Str} {vs:List Value} {i:Nat} {m:Str→Option Value},P.Nodup→P[i]?=some x→vs[i]?=some v→kindOf x=some .local →
  bindL kindOf (P.zip vs) m x=some v
 | [],_,_,_,_,h,_,_=>by simp at h
 | _ :: _,[],_,_,_,_,h,_=>by simp at h
 | p :: P,w :: vs,0,m,nd,h1,h2,hk=>by
  simp at h1 h2;subst h1;subst h2
  show bindL kindOf ((p,w) :: P.zip vs) m p=_
  unfold bindL
  rw [bindL_out fun v hv=>(List.nodup_cons.mp nd).1 (List.of_mem_zip hv).1,if_pos hk]
  simp
 | p :: P,w :: vs,i + 1,m,nd,h1,h2,hk=>by
  show bindL kindOf ((p,w) :: P.zip vs) m x=_
  unfold bindL
  exact bindL_get (i:=i) (List.nodup_cons.mp nd).2 (by simpa using h1) (by simpa using h2) hk
theorem bindC_get {kindOf:Str→Option NameKind} {x:Str} {v:Value}:∀ {P:List Str} {vs:List Value} {i:Nat} {m:Str→Option Value},P.Nodup→P[i]?=some x→vs[i]?=some v→kindOf x≠some .local →
  bindC kindOf (P.zip vs) m x=some v
 | [],_,_,_,_,h,_,_=>by simp at h
 | _ :: _,[],_,_,_,_,h,_=>by simp at h
 | p :: P,w :: vs,0,m,nd,h1,h2,hk=>by
  simp at h1 h2;subst h1;subst h2
  show bindC kindOf ((p,w) :: P.zip vs) m p=_
  unfold bindC
  rw [bindC_out fun v hv=>(List.nodup_cons.mp nd).1 (List.of_mem_zip hv).1,if_neg hk]
  simp
 | p :: P,w :: vs,i + 1,m,nd,h1,h2,hk=>by
  show bindC kindOf ((p,w) :: P.zip vs) m x=_
  unfold bindC
  exact bindC_get (i:=i) (List.nodup_cons.mp nd).2 (by simpa using h1) (by simpa using h2) hk
def start (N:List Str) (vs:List V):St:=vs.map some ++ List.replicate (N.length - vs.length) none
def cxOf (CX:CXT) (P:Program) (w:World) (K:PySem.W.Frag) (mg:Str→Option Value) (base:Heap) (N:List Str) (qual:Str) (scope:Scope) (f:Addr) (cd:Value) (A:Around) (outer:List Env) (s:Shared) (H:Hp) (E:XK):Cx where
 prog:=P
 w:=w
 K:=K
 mg:=mg
 base:=base
 A:=A.deeper (envOfC qual scope s.heap.objs.size f cd)
 N:=N
 s₀:=s
 H₀:=H
 env:=envOfC qual scope s.heap.objs.size f cd
 outer:=outer
 stack:=envOfC qual scope s.heap.objs.size f cd :: outer
 ex:=[]
 calm:=true
 fn:=fun _=>true
 pn:=[]
 xe:=fun e s'=>wpAny (model P w) (A.deeper (envOfC qual scope s.heap.objs.size f cd)) (leaving (envOfC qual scope s.heap.objs.size f cd) e) (fun _ s''=>CX outer H s E e s'') (fun e' s''=>CX outer H s E e' s'') s'
theorem cell_has {sc:Scope} {n:Nat} {x:Str} (h:sc.names.lookup x=some .cell):∃ c,(cellsFrom n sc.names []).lookup x=some c:=by
 have q:=PySem.W.cellsFrom_some sc.names n [] (.inl h)
 exact Option.isSome_iff_exists.mp q
theorem inv_start {CX:CXT} {P:Program} {w:World} {K:PySem.W.Frag} {mg:Str→Option Value} {base:Heap} {N ps:List Str} {qual:Str} {scope:Scope} {f:Addr} {cd:Value} {A:Around} {outer:List Env} {s s1:Shared} {H:Hp} {E:XK} {us:List Value} {vs:List V}
  (S:FnScope N ps scope) (hd:A.handled=none) (e0:Env0 P w K mg base A outer s H) (hl:vs.length=ps.length) (r:Vals vs us)
  (x:InCallC s s.heap.objs.size (bindL (envOfC qual scope s.heap.objs.size f cd).kindOf (ps.zip us) fun _=>none) (cellsFrom (s.heap.objs.size + 1) scope.names []) (bindC (envOfC qual scope s.heap.objs.size f cd).kindOf (ps.zip us) fun _=>none) s1) :
  Inv (cxOf CX P w K mg base N qual scope f cd A outer s H E) [] (start N vs) H s1:=by
 have hpl:ps.length≤N.length:=by have:=congrArg List.length S.pre;rw [List.length_take] at this;omega
 obtain ⟨h1,tk,rfl,hk⟩:=x.done
 have noA:∀ b:Addr,b ∉ (cxOf CX P w K mg base N qual scope f cd A outer s H E).ex:=fun b z=>absurd (show b∈([]:List Addr) from z) (by simp)
 refine ⟨⟨e0.mod,S.kind,rfl,rfl,Nat.le_refl _,fun y z c h1 h2=>?_,fun y hy=>?_,fun y c _ h=>?_,fun _=>hd,Around.frames_deeper e0.frames,.inr ⟨rfl,rfl⟩,fun b z=>absurd z (noA b),e0.bs,e0.bsz,fun b _ _=>noA b,fun b z=>absurd z (noA b),e0.funs,e0.frf⟩,
  rfl,e0.bare,Un.kept hk,⟨_,x.toInCall.ns,fun i y v h1 h2 h3=>?_⟩,fun y c h=>⟨_,x.cell y c h⟩,e0.hok.fresh (Nat.le_refl _),fun y c h=>?_,fun p hp=>absurd (show p∈([]:List (Addr × Obj)) from hp) (by simp),e0.hok.kept hk,?_⟩
 ·exact name_of_addr x.apart (PySem.mem_of_lookup h1) (PySem.mem_of_lookup h2)
 ·have hy:scope.names.lookup y=some .cell∨scope.names.lookup y=some .free:=hy
  rcases hy with hy | hy
  ·exact cell_has hy
  ·exact absurd rfl (S.nofree _ (PySem.mem_of_lookup hy))
 ·exact Nat.le_of_lt (x.above y c (PySem.mem_of_lookup h))
 ·have hi:i < vs.length:=by
   unfold start at h2
   by_cases hi:i < vs.length
   ·exact hi
   ·rw [List.getElem?_append_right (by simpa using hi)] at h2
    rw [List.getElem?_replicate] at h2
    split at h2 <;> cases h2
  have ha:vs[i]?=some v:=by
   unfold start at h2
   rw [List.getElem?_append_left (by simpa using hi),List.getElem?_map] at h2
   cases e:vs[i]? with
   | none=>rw [e] at h2;cases h2
   | some a=>rw [e] at h2;cases h2;rfl
  obtain ⟨u,hu,rv⟩:=r.get ha
  have hp:ps[i]?=some y:=by
   rw [← S.pre,List.getElem?_take_of_lt (by omega)];exact h1
  have ndP:ps.Nodup:=by rw [← S.pre];exact S.nd.sublist (List.take_sublist _ _)
  refine ⟨u,rv,?_⟩
  rcases S.par y (List.mem_of_getElem? hp) with k | k
  ·exact .inl ⟨k,bindL_get ndP hp hu k⟩
  ·obtain ⟨c,e⟩:=cell_has (n:=s.heap.objs.size + 1) k
   refine .inr ⟨.inl k,c,e,?_⟩
   have q:=x.cell y c e
   rw [bindC_get ndP hp hu (by show scope.names.lookup y≠_;rw [k];decide)] at q
   exact q
 ·exact e0.hok.fresh (Nat.le_of_lt (x.above y c (PySem.mem_of_lookup h)))
 ·unfold start
  show _=N.length
  rw [List.length_append,List.length_map,List.length_replicate]
  omega
theorem fn_of {CX:CXT} {P:Program} {w:World} {K:PySem.W.Frag} {mg:Str→Option Value} {base:Heap} {k:Nat} {f:Addr} {name qual:Str} {params:Arguments} {body:List Stmt} {scope:Scope} {dV kV doc pm cdv ct oc:Value} {an od:Option Addr}
  {osl:Array (Option Value)} {N ps:List Str} {sp:Sp} (lk:K.lookup f=some ⟨oc,od,.func (PySem.W.fnOf name qual params body scope dV kV doc pm an cdv ct),osl⟩) (hcd:PySem.W.codeIn K cdv qual=true) (S:FnScope N ps scope)
  (len:∀ vs H Q E,sp vs H Q E→vs.length=ps.length)
  (hbody:∀ (A:Around) (outer:List Env) (s:Shared) (H:Hp) (vs:List V) (Q:VK) (E:XK),Room k (A.deeper (envOfC qual scope s.heap.objs.size f cdv))→sp vs H Q E →
   ∃ t,PSs (cxOf CX P w K mg base N qual scope f cdv A outer s H E) body t∧t { nx:=fun _ H'=>Q .non H',rt:=Q } (start N vs) H) :
  FnOk P w K mg base CX (k + 1) f (PySem.W.fnOf name qual params body scope dV kV doc pm an cdv ct) ps sp:=by
 refine ⟨len,fun A outer s H args us vs Q E hr e0 hb r hsp=>?_⟩
 have hl:=len _ _ _ _ hsp
 have KX:K.In s.heap:=e0.mod.kin.keeps fun b o e=>(e0.bs b o e).1
 have lim:s.heap.NoLimit:=e0.mod.nolimit.keeps fun b o e=>(e0.bs b o e).1
 have hkind:∀ y∈ps.zip us,scope.names.lookup y.1=some .local∨(scope.names.lookup y.1=some .cell∧((cellsFrom (s.heap.objs.size + 1) scope.names []).lookup y.1).isSome=true):=fun ⟨n,v⟩ hy=>by
  rcases S.par n (List.of_mem_zip hy).1 with q | q
  ·exact .inl q
  ·exact .inr ⟨q,PySem.W.cellsFrom_some _ _ _ (.inl q)⟩
 refine codeAny_call_function hr.depth (KX _ _ lk) rfl S.co S.gen rfl (PySem.W.codeRec_of KX hcd) (hb _ _ _ _ ?_)
 refine wpAny_newFunctionEnv_cells S.kind hkind fun env he s1 x=>?_
 subst he
 refine ⟨lim.keeps x.toInCall.keep,codeAny_func ?_⟩
 obtain ⟨t,ht,hq⟩:=hbody A outer s H vs Q E (hr.deeper _) hsp
 have I:Inv (cxOf CX P w K mg base N qual scope f cdv A outer s H E) [] (start N vs) H s1:=inv_start S hr.hd e0 hl r x
 refine wpAny_mono (ht [] s1 (start N vs) H _ I hq) (fun fl s' hs=>?_) fun e s' hs=>hs
 have fin:∀ {σ':St} {H':Hp} {v:V} {u:Value},Inv (cxOf CX P w K mg base N qual scope f cdv A outer s H E) [] σ' H' s'→RelV v u→Q v H'→CE outer P w H s Q u s':=
  fun {σ' H' v u} J rv q=>⟨v,H',J.os,J.bare,J.base,J.hok,rv,q⟩
 cases fl with
 | ret u=>
  obtain ⟨v,σ',H',J,rv,q⟩:=hs
  exact fin J rv q
 | next=>
  obtain ⟨σ',H',J,q⟩:=hs
  exact fin (v:=V.non) (u:=Value.none) J rfl q
 | brk=>
  obtain ⟨_,_,_,q⟩:=hs
  exact False.elim q
 | cont=>
  obtain ⟨_,_,_,q⟩:=hs
  exact False.elim q
end L2
namespace L2
open PySem PySem.Spec PyProof.Rows
section
variable {X:Cx} {x:Str} {p pos:Pos} {e:Expr} {es:List Expr} {t:TA} {id T:String} {r:List V→Hp→VK→Prop}
def tCB (r:List V→Hp→VK→Prop) (t:TA):TE:=fun σ H Q=>t σ H fun vs H1=>r vs H1 Q
theorem pe_callB (hc:CallR X (.builtin id) r) (hg:Gl X x) (hm:X.mg x=none) (hv:bootBuiltins x=some (.builtin id)) (ha:PA X (e :: es) t) (hn:x≠"__name__":=by decide) (hdb:(x == ("__debug__":Str))=false:=by decide)
  (he:starEach (e :: es) X.env=(false,eval e X.env) :: starEach es X.env:=by rfl) (hpl:(backTo pos (starEach es X.env)).any (·.1)=false:=by rfl):PE X (.Call (.Name x p) (e :: es) [] pos) (tCB r t):=by
 intro pins s σ H Q I h
 refine wpAny_Call_Name_kw (ld_blt I hg hm hv ?_ hn hdb)
 exact PyProof.Rows.callWith_builtin1 (thn (ha pos pins s σ H _ I h) fun us s1 ⟨vs,H1,I1,r1,q1⟩=>hc pins s1 σ H1 vs us Q I1 r1 q1) he hpl
theorem pe_callTy (hc:CallR X (.type T) r) (hg:Gl X x) (hm:X.mg x=none) (hv:bootBuiltins x=some (.type T)) (ha:PA X (e :: es) t) (hn:x≠"__name__":=by decide) (hdb:(x == ("__debug__":Str))=false:=by decide)
  (he:starEach (e :: es) X.env=(false,eval e X.env) :: starEach es X.env:=by rfl) (hpl:(backTo pos (starEach es X.env)).any (·.1)=false:=by rfl):PE X (.Call (.Name x p) (e :: es) [] pos) (tCB r t):=by
 intro pins s σ H Q I h
 refine wpAny_Call_Name_kw (ld_blt I hg hm hv ?_ hn hdb)
 exact PyProof.Rows.callWith_type1 (thn (ha pos pins s σ H _ I h) fun us s1 ⟨vs,H1,I1,r1,q1⟩=>hc pins s1 σ H1 vs us Q I1 r1 q1) he hpl
end
end L2
namespace HT
open PySem PyProof.Rows
def lexLt:List Int→List Int→Bool
 | [],[]=>false
 | [],_ :: _=>true
 | _ :: _,[]=>false
 | x :: xs,y :: ys=>if x=y then lexLt xs ys else decide (x < y)
section
open PySem.SeqAt
open PySem.AutoSeq1 (wpAny_loadPart')
open PySem.MeetsSeq PySem.MeetsSeq2 PySem.MeetsSeq3
end
section
variable {prog:Program} {w:World} {A:Around} {E:Value→Shared→Prop} {s:Shared}
theorem cat_tup {t b:Addr} {vs ws:List Value} {Q:Value→Shared→Prop} (ht:IsTup s.heap t vs.toArray) (hb:IsTup s.heap b ws.toArray) (hv:vs≠[])
  (h1:ws=[]→Q (.ref t) s) (h2:ws≠[]→Q (.ref s.heap.objs.size) { s with heap:=s.heap.push { cls:=.type "tuple",data:=.seq (vs ++ ws).toArray } })
  (hsz:vs.length + ws.length≤sizeLine):wpAny (model prog w) A (binaryOp .Add (.ref t) (.ref b)) Q E s:=by
 obtain ⟨⟨cls,dd,data,sl⟩,ho,hc,n,hd⟩:=id ht
 obtain ⟨⟨cls2,dd2,data2,sl2⟩,ho2,hc2,n2,hd2⟩:=id hb
 simp only at hc hd hc2 hd2
 subst hc hd hc2 hd2
 have e:vs.toArray ++ ws.toArray=(vs ++ ws).toArray:=by simp
 by_cases hw:ws=[]
 ·exact concat_meets ⟨_,ho,rfl⟩ ⟨_,ho2,rfl⟩ noFill_tuple_add seq_tuple_add PySem.F.slot_tuple_add PySem.F.entry_tuple_add (PySem.F.args_tuple_add_2 _ _)
   (tuple_addW1 t b vs.toArray ws.toArray n n2 dd dd2 sl sl2 (by simpa using hv) (by simp [hw])) ⟨ho,ho2,h1 hw⟩
 ·refine concat_meets ⟨_,ho,rfl⟩ ⟨_,ho2,rfl⟩ noFill_tuple_add seq_tuple_add PySem.F.slot_tuple_add PySem.F.entry_tuple_add (PySem.F.args_tuple_add_2 _ _)
   (tuple_addW2 t b vs.toArray ws.toArray n n2 dd dd2 sl sl2 (by simpa using hv) (by simpa using hw) (by rw [List.size_toArray,List.size_toArray];exact hsz)) ⟨ho,ho2,?_⟩
  rw [e]
  exact h2 hw
def sIx (n d:Nat):Option Int→Nat
 | none=>d
 | some v=>if v < 0 then (v + (n:Int)).toNat else min v.toNat n
theorem sIx_none (n d:Nat):sIx n d none=d:=rfl
theorem sIx_nat (n d k:Nat):sIx n d (some (k:Int))=min k n:=by
 show (if (k:Int) < 0 then ((k:Int) + (n:Int)).toNat else min (k:Int).toNat n)=min k n
 rw [if_neg (by omega),Int.toNat_natCast]
theorem sIx_le (n d:Nat) (hd:d≤n) (o:Option Int):sIx n d o≤n:=by
 cases o with
 | none=>exact hd
 | some v=>
  show (if v < 0 then (v + (n:Int)).toNat else min v.toNat n)≤n
  by_cases hv:v < 0
  ·rw [if_pos hv];omega
  ·rw [if_neg hv];exact Nat.min_le_right _ _
theorem clip_eq (v:Int) (n d:Nat):(if v < 0 then max (v + (n:Int)) 0 else min v (n:Int))=((sIx n d (some v):Nat):Int):=by
 show (if v < 0 then max (v + (n:Int)) 0 else min v (n:Int))=(((if v < 0 then (v + (n:Int)).toNat else min v.toNat n):Nat):Int)
 by_cases hv:v < 0
 ·simp only [if_pos hv];omega
 ·simp only [if_neg hv];omega
theorem adjust_gen (lo hi:Option Int) (n:Nat):Builtin.Slice.sliceAdjust lo hi 1 (n:Int)=(((sIx n 0 lo:Nat):Int),((sIx n n hi:Nat):Int)):=by
 have h1:¬ ((1:Int) < 0):=by omega
 unfold Builtin.Slice.sliceAdjust
 simp only [h1,if_false]
 refine Prod.ext ?_ ?_
 ·cases lo with
  | none=>rfl
  | some v=>exact clip_eq v n 0
 ·cases hi with
  | none=>rfl
  | some v=>exact clip_eq v n n
theorem places_gen (i j:Nat):Builtin.Slice.slicePlaces (i:Int) (j:Int) 1=j - i:=by
 unfold Builtin.Slice.slicePlaces
 have h1:(1:Int) > 0:=by omega
 simp only [h1,if_true,Int.ediv_one]
 split <;> omega
theorem slicePart_ {v:Value} {o:Option Int} {Q:Option Int→Shared→Prop} (p:IsPart v o) (h:Q o s):wpAny (model prog w) A (Builtin.Slice.slicePartIndex v) Q E s:=by
 cases p with
 | none=>exact slicePart_none h
 | int i t=>exact slicePart_int h
theorem sliceApplied_gen {sl:Addr} {vl vu:Value} {lo hi:Option Int} {n:Nat} {Q:Int × Int × Nat→Shared→Prop} (hs:s.heap.IsSliceOf sl vl vu .none) (pl:IsPart vl lo) (pu:IsPart vu hi)
  (h:Q (((sIx n 0 lo:Nat):Int),1,sIx n n hi - sIx n 0 lo) s):wpAny (model prog w) A (Builtin.Slice.sliceApplied (.ref sl) (pure (n:Int))) Q E s:=by
 obtain ⟨os,hos,hcs,hds⟩:=id hs
 unfold Builtin.Slice.sliceApplied Builtin.Slice.sliceFields
 refine wpAny_bind (wpAny_bind (wpAny_field hos hds (x:=vl) rfl (wpAny_bind (wpAny_field hos hds (x:=vu) rfl (wpAny_bind (wpAny_field hos hds (x:=.none) rfl (wpAny_pure ?_)))))))
 refine wpAny_bind (slicePart_none ?_)
 show wpAny _ _ (if ((1:Int) == 0)=true then _ else _) _ _ s
 rw [if_neg (by decide)]
 refine wpAny_bind (slicePart_ pl (wpAny_bind (slicePart_ pu (wpAny_bind (wpAny_pure ?_)))))
 show wpAny _ _ (match Builtin.Slice.sliceAdjust lo hi 1 (n:Int) with | (lo,hi)=>pure (lo,(1:Int),Builtin.Slice.slicePlaces lo hi 1)) _ _ s
 rw [adjust_gen lo hi n]
 show wpAny _ _ (pure (((sIx n 0 lo:Nat):Int),(1:Int),Builtin.Slice.slicePlaces ((sIx n 0 lo:Nat):Int) ((sIx n n hi:Nat):Int) 1)) _ _ s
 rw [places_gen]
 exact wpAny_pure h
theorem pick_gen (xs:Array Value) (i k:Nat):((List.range k).filterMap fun (m:Nat)=>xs[((i:Int) + (m:Int) * 1).toNat]?).toArray=((xs.toList.drop i).take k).toArray:=by
 have e:(fun (m:Nat)=>xs[((i:Int) + (m:Int) * 1).toNat]?)=fun m=>xs[i + m]?:=by
  funext m
  have:((i:Int) + (m:Int) * 1).toNat=i + m:=by omega
  rw [this]
 rw [e]
 have:=pick_run xs i k
 rw [List.filterMap_map] at this
 have e2:((fun x=>xs[x]?) ∘ fun x=>i + x)=fun m=>xs[i + m]?:=rfl
 rw [e2] at this
 rw [this]
theorem getItem_tuple_cut {t sl:Addr} {items:Array Value} {vl vu:Value} {lo hi:Option Int} {Q:Value→Shared→Prop} (ht:IsTup s.heap t items) (hs:s.heap.IsSliceOf sl vl vu .none) (pl:IsPart vl lo) (pu:IsPart vu hi)
  (hw:¬ (sIx items.size 0 lo=0∧sIx items.size items.size hi=items.size))
  (h:Q (.ref s.heap.objs.size) { s with heap:=s.heap.push { cls:=.type "tuple",data:=.seq ((items.toList.drop (sIx items.size 0 lo)).take (sIx items.size items.size hi - sIx items.size 0 lo)).toArray } })
  (hsz:items.size≤sizeLine):wpAny (model prog w) A (getItem (.ref t) (.ref sl)) Q E s:=by
 have htake:sizeOk (.seq ((items.toList.drop (sIx items.size 0 lo)).take (sIx items.size items.size hi - sIx items.size 0 lo)).toArray):=by
  show ((items.toList.drop (sIx items.size 0 lo)).take (sIx items.size items.size hi - sIx items.size 0 lo)).toArray.size≤sizeLine
  rw [List.size_toArray,List.length_take,List.length_drop,Array.length_toList]
  omega
 have hj:sIx items.size items.size hi≤items.size:=sIx_le _ _ (Nat.le_refl _) hi
 obtain ⟨os,hos,hcs,hds⟩:=id hs
 have hTs:s.TypeIs (.ref sl) "slice":=⟨os,hos,hcs⟩
 unfold getItem
 try with_reducible refine wpAny_holding ?_
 first | refine wpAny_bind (wpAny_pure ?_) | skip
 refine wpAny_bind (wpAny_sequenceKey ht.typeIs (by decide) ?_)
 refine wpAny_bind (wpAny_callSpecial?_slot (name:=Str.ofString "__getitem__") ht.typeIs PyProof.Rows.slot_tuple_getitem
  (wpAny_call_entry PyProof.Rows.slot_tuple_getitem ht.typeIs entry_tuple_getitem ?_ (args_tuple_getitem _ _)))
 show wpAny _ _ (Builtin.Tuple.tupleItemsOf (.ref t) >>= _) _ _ s
 refine wpAny_bind (tupleItemsOf_ ht ?_)
 refine wpAny_bind (wpAny_typeOf hTs ?_)
 rw [if_pos (by decide)]
 refine wpAny_bind (sliceApplied_gen hs pl pu ?_)
 have hno:¬ ((((sIx items.size 0 lo:Nat):Int) == 0 && (1:Int) == 1 && (sIx items.size items.size hi - sIx items.size 0 lo) == items.size)=true):=by
  intro q
  rw [Bool.and_eq_true,Bool.and_eq_true] at q
  have q1:((sIx items.size 0 lo:Nat):Int)=0:=eq_of_beq q.1.1
  have q2:sIx items.size items.size hi - sIx items.size 0 lo=items.size:=eq_of_beq q.2
  exact hw ⟨by omega,by omega⟩
 show wpAny _ _ (if (((sIx items.size 0 lo:Nat):Int) == 0 && (1:Int) == 1 && (sIx items.size items.size hi - sIx items.size 0 lo) == items.size)=true then _ else _) _ _ s
 rw [if_neg hno,pick_gen]
 first
  | exact wpAny_bind (m:=Builtin.Tuple.tupleExact _) (wpAny_newObj_type (wpAny_pure ⟨_,rfl,wpAny_pure h⟩) htake)
  | exact wpAny_bind (m:=Builtin.Tuple.tupleExact _) (wpAny_newObj_type (wpAny_bind (wpAny_pure (wpAny_pure ⟨_,rfl,wpAny_pure h⟩))) htake)
  | exact wpAny_bind (wpAny_bind (m:=Builtin.Tuple.tupleExact _) (wpAny_newObj_type (wpAny_pure (wpAny_pure ⟨_,rfl,wpAny_pure h⟩)) htake))
  | exact wpAny_bind (wpAny_bind (m:=Builtin.Tuple.tupleExact _) (wpAny_newObj_type (wpAny_pure ⟨_,rfl,wpAny_pure h⟩) htake))
end
end HT
namespace L2
open PySem PySem.Spec PyProof.Rows
abbrev TO:=St→Hp→(Option Int→Hp→Prop)→Prop
def PO (X:Cx) (e:Option Expr) (t:TO):Prop:=
 ∀ (pins:List (Addr × Obj)) (s:Shared) (σ:St) (H:Hp) (Q:Option Int→Hp→Prop),Inv X pins σ H s→t σ H Q →
  wpAny (model X.prog X.w) X.A (evalPart e X.env) (fun u s'=>∃ o H',Inv X pins σ H' s'∧IsPart u o∧Q o H') X.xe s
def tNoPart:TO:=fun _ H Q=>Q none H
def tPart (t:TE):TO:=fun σ H Q=>t σ H fun x H1=>∃ i,x=.int i∧Q (some i) H1
section
variable {X:Cx} {e:Expr} {te:TE} {lo hi:Option Expr} {tl th:TO} {pos p2:Pos}
theorem po_none:PO X none tNoPart:=by
 intro pins s σ H Q I h
 rw [evalPart_none]
 exact wpAny_pure ⟨none,H,I,.none,h⟩
theorem po_some (h:PE X e te):PO X (some e) (tPart te):=by
 intro pins s σ H Q I hw
 rw [evalPart_some]
 refine thn (h pins s σ H _ I hw) fun u s1 ⟨x,H1,I1,r1,q1⟩=>?_
 obtain ⟨i,rfl,q⟩:=q1
 obtain ⟨t,rfl⟩:=r1
 exact ⟨some i,H1,I1,.int i t,q⟩
def SlR (X:Cx) (r:V→Option Int→Option Int→Hp→VK→Prop):Prop:=
 ∀ (pins:List (Addr × Obj)) (s:Shared) (σ:St) (H:Hp) (x:V) (v vl vu:Value) (lo hi:Option Int) (sl:Addr) (Q:VK),Inv X pins σ H s→RelV x v→s.heap.IsSliceOf sl vl vu .none→IsPart vl lo→IsPart vu hi→r x lo hi H Q →
  ∃ T id,typeLookup (.type T) "__getitem__" = pure (some (.builtin id))∧s.TypeIs v T∧wpAny (model X.prog X.w) X.A (getItem v (.ref sl)) (EP X pins σ Q) X.xe s
theorem SlR.or {r r':V→Option Int→Option Int→Hp→VK→Prop} (h:SlR X r) (h':SlR X r'):SlR X (fun x lo hi H Q=>r x lo hi H Q∨r' x lo hi H Q):=by
 intro pins s σ H x v vl vu lo hi sl Q I rx hs pl pu q
 rcases q with q | q
 ·exact h pins s σ H x v vl vu lo hi sl Q I rx hs pl pu q
 ·exact h' pins s σ H x v vl vu lo hi sl Q I rx hs pl pu q
def tSl (r:V→Option Int→Option Int→Hp→VK→Prop) (te:TE) (tl th:TO):TE:=fun σ H Q=>te σ H fun x H1=>tl σ H1 fun l H2=>th σ H2 fun u H3=>r x l u H3 Q
theorem pe_slice {r:V→Option Int→Option Int→Hp→VK→Prop} (hr:SlR X r) (he:PE X e te) (hl:PO X lo tl) (hu:PO X hi th):PE X (.Subscript e (.Slice lo hi none p2) pos) (tSl r te tl th):=by
 intro pins s σ H Q I h
 refine Subscript_ (thn (he pins s σ H _ I h) fun v s1 ⟨x,H1,I1,r1,q1⟩=>?_)
 refine wpAny_Slice (thn (hl pins s1 σ H1 _ I1 q1) fun vl s2 ⟨l,H2,I2,pl,q2⟩=>thn (hu pins s2 σ H2 _ I2 q2) fun vu s3 ⟨u,H3,I3,pu,q3⟩=>?_)
 rw [evalPart_none]
 refine wpAny_pure ?_
 have I4:Inv X pins σ H3 { s3 with heap:=s3.heap.push { cls:=.type "slice",data:=.fields #[vl,vu,.none] } }:=I3.kept (t':=s3.toks) fun b ob q=>Heap.get?_push_of_some _ q
 obtain ⟨T,id,hT,ht,hg⟩:=hr pins { s3 with heap:=s3.heap.push { cls:=.type "slice",data:=.fields #[vl,vu,.none] } } σ H3 x v vl vu l u s3.heap.objs.size Q I4 r1 (Heap.IsSliceOf.new ..) pl pu q3
 show wpAny (model X.prog X.w) X.A (subscriptTail e (.Slice lo hi none p2) v (.ref s3.heap.objs.size)) (EP X pins σ Q) X.xe { s3 with heap:=s3.heap.push { cls:=.type "slice",data:=.fields #[vl,vu,.none] } }
 exact tail_any (ops:=[.ref s3.heap.objs.size,v]) ht hT hg (by with_unfolding_all rfl)
def cutV (xs:List V) (lo hi:Option Int):List V:=(xs.drop (HT.sIx xs.length 0 lo)).take (HT.sIx xs.length xs.length hi - HT.sIx xs.length 0 lo)
theorem cutV_length (xs:List V) (lo hi:Option Int):(cutV xs lo hi).length≤xs.length:=by
 unfold cutV
 rw [List.length_take,List.length_drop]
 omega
def rSlT (K:PySem.W.Frag):V→Option Int→Option Int→Hp→VK→Prop:=fun x lo hi H Q=>∃ a xs,x=.ref a∧SqT K H a xs ∧
 ¬ (HT.sIx xs.length 0 lo=0∧HT.sIx xs.length xs.length hi=xs.length)∧∀ p,H p=none→Q (.ref p) (upd H p (.tup (cutV xs lo hi)))
theorem sl_tup:SlR X (rSlT X.K):=by
 intro pins s σ H x v vl vu lo hi sl Q I rx hs pl pu h
 obtain ⟨a,xs,rfl,hx,hw,q⟩:=h
 cases rx
 obtain ⟨its,r,ht,hz⟩:=I.tuple hx
 have hlen:its.toArray.size=xs.length:=by rw [List.size_toArray];exact r.length.symm
 refine ⟨"tuple",_,PyProof.Rows.slot_tuple_getitem.lookup,ht.typeIs,?_⟩
 refine HT.getItem_tuple_cut ht hs pl pu (by rw [hlen];exact hw) ?_ (by rw [hlen];exact hz)
 rw [hlen]
 refine ⟨.ref s.heap.objs.size,_,I.laid (t':=s.toks) (o:=.tup (cutV xs lo hi)) (fun b ob q=>Heap.get?_push_of_some _ q) (Nat.le_refl _) ?_,rfl,q _ (I.hok.fresh (Nat.le_refl _))⟩
 exact ⟨Nat.le_trans (cutV_length xs lo hi) hz,_,(r.drop (HT.sIx xs.length 0 lo)).take (HT.sIx xs.length xs.length hi - HT.sIx xs.length 0 lo),IsTup.new _ _⟩
def rLtT (K:PySem.W.Frag):R2:=fun x y H Q=>∃ a b ns ms,x=.ref a∧y=.ref b∧SqT K H a (ns.map V.int)∧SqT K H b (ms.map V.int)∧Q (.bl (HT.lexLt ns ms)) H
def rCatT (K:PySem.W.Frag):R2:=fun x y H Q=>∃ a b xs ys,x=.ref a∧y=.ref b∧SqT K H a xs∧SqT K H b ys∧xs≠[]∧xs.length + ys.length≤sizeLine ∧
 (ys=[]→Q (.ref a) H)∧(ys≠[]→∀ p,H p=none→Q (.ref p) (upd H p (.tup (xs ++ ys))))
theorem Vals.nil_iff {xs:List V} {us:List Value} (r:Vals xs us):us=[]↔xs=[]:=by
 cases r with
 | nil=>simp
 | cons _ _=>simp
theorem op_catT:OpR X (binaryOp .Add) (rCatT X.K):=by
 intro pins s σ H x y v u Q I rx ry h
 obtain ⟨a,b,xs,ys,rfl,rfl,ha,hb,hx,hz,q1,q2⟩:=h
 cases rx
 cases ry
 obtain ⟨its,r1,p1,_⟩:=I.tuple ha
 obtain ⟨its2,r2,p2,_⟩:=I.tuple hb
 refine HT.cat_tup p1 p2 (fun z=>hx (r1.nil_iff.mp z)) (fun z=>⟨.ref a,H,I,rfl,q1 (r2.nil_iff.mp z)⟩) (fun z=>?_) (by rw [← r1.length,← r2.length];exact hz)
 refine ⟨.ref s.heap.objs.size,_,I.laid (t':=s.toks) (o:=.tup (xs ++ ys)) (fun b ob q=>Heap.get?_push_of_some _ q) (Nat.le_refl _) ?_,rfl,q2 (fun w=>z (r2.nil_iff.mpr w)) _ (I.hok.fresh (Nat.le_refl _))⟩
 exact ⟨by rw [List.length_append];exact hz,_,r1.append r2,IsTup.new _ _⟩
end
end L2
namespace L2
open PySem PySem.Spec PyProof.Rows
def ixN (n:Nat) (i:Int):Option Nat:=if 0≤i then (if i < n then some i.toNat else none) else if -(n:Int)≤i then some (i + n).toNat else none
def atI {α:Type} (xs:List α) (i:Int):Option α:=(ixN xs.length i).bind fun j=>xs[j]?
theorem ixN_seq {n:Nat} {i:Int} {j:Nat} (h:ixN n i=some j):seqIndex? i n=some j∧j < n∧-(n:Int)≤i∧i < n:=by
 unfold ixN at h
 by_cases h0:0≤i
 ·rw [if_pos h0] at h
  by_cases h1:i < n
  ·rw [if_pos h1] at h
   have e:i.toNat=j:=Option.some.inj h
   exact ⟨by rw [seqIndex_of h0 h1,e],by omega,by omega,h1⟩
  ·rw [if_neg h1] at h;cases h
 ·rw [if_neg h0] at h
  by_cases h1:-(n:Int)≤i
  ·rw [if_pos h1] at h
   have e:(i + n).toNat=j:=Option.some.inj h
   exact ⟨by rw [seqIndex_neg (by omega) h1,e],by omega,h1,by omega⟩
  ·rw [if_neg h1] at h;cases h
theorem atI_get {α:Type} {xs:List α} {i:Int} {v:α} (h:atI xs i=some v):∃ j,seqIndex? i xs.length=some j∧xs[j]?=some v∧j < xs.length∧-(xs.length:Int)≤i∧i < xs.length:=by
 unfold atI at h
 cases e:ixN xs.length i with
 | none=>rw [e] at h;cases h
 | some j=>
  rw [e] at h
  obtain ⟨h1,h2,h3,h4⟩:=ixN_seq e
  exact ⟨j,h1,h,h2,h3,h4⟩
theorem atI_nat {α:Type} {xs:List α} {j:Nat} {v:α} (h:xs[j]?=some v):atI xs (j:Int)=some v:=by
 have hj:j < xs.length:=(List.getElem?_eq_some_iff.mp h).1
 have e:ixN xs.length (j:Int)=some j:=by
  unfold ixN
  rw [if_pos (by omega),if_pos (by omega)];simp
 unfold atI;rw [e];exact h
def PlainIx (b:Expr):Prop:=∀ o i,subscripted b false o i=operate [o,i] (getItem o i)
def IxR (X:Cx) (r:R2):Prop:=
 ∀ (value slice:Expr) (pins:List (Addr × Obj)) (s:Shared) (σ:St) (H:Hp) (x y:V) (v u:Value) (Q:VK),Inv X pins σ H s→RelV x v→RelV y u→r x y H Q →
  subscripted slice false v u=operate [v,u] (getItem v u)→wpAny (model X.prog X.w) X.A (subscriptTail value slice v u) (EP X pins σ Q) X.xe s
def MtR (X:Cx) (id:String) (r:V→List V→Hp→VK→Prop):Prop:=
 ∀ (pins:List (Addr × Obj)) (s:Shared) (σ:St) (H:Hp) (x:V) (xs:List V) (v:Value) (us:List Value) (Q:VK),Inv X pins σ H s→RelV x v→Vals xs us→r x xs H Q →
  wpAny (model X.prog X.w) X.A (call (.builtin id) (v :: us)) (EP X pins σ Q) X.xe s
section
variable {X:Cx} {a b:Expr} {ta tb:TE} {pos:Pos}
theorem IxR.or {r r':R2} (h:IxR X r) (h':IxR X r'):IxR X (fun x y H Q=>r x y H Q∨r' x y H Q):=by
 intro value slice pins s σ H x y v u Q I rx ry q hs
 rcases q with q | q
 ·exact h value slice pins s σ H x y v u Q I rx ry q hs
 ·exact h' value slice pins s σ H x y v u Q I rx ry q hs
theorem MtR.or {id:String} {r r':V→List V→Hp→VK→Prop} (h:MtR X id r) (h':MtR X id r'):MtR X id (fun x xs H Q=>r x xs H Q∨r' x xs H Q):=by
 intro pins s σ H x xs v us Q I rx rs q
 rcases q with q | q
 ·exact h pins s σ H x xs v us Q I rx rs q
 ·exact h' pins s σ H x xs v us Q I rx rs q
theorem pe_ix {r:R2} (hr:IxR X r) (ha:PE X a ta) (hb:PE X b tb) (hs:PlainIx b):PE X (.Subscript a b pos) (tOp r ta tb):=by
 intro pins s σ H Q I h
 exact Subscript_ (binT ha hb I h fun v u s2 x y H2 I2 rx ry q=>hr a b pins s2 σ H2 x y v u Q I2 rx ry q (hs _ _))
def rIxL (K:PySem.W.Frag):R2:=fun x y H Q=>∃ p xs i v,x=.ref p∧y=.int i∧SqL K H p xs∧atI xs i=some v∧Q v H
def rIxT (K:PySem.W.Frag):R2:=fun x y H Q=>∃ p xs i v,x=.ref p∧y=.int i∧SqT K H p xs∧atI xs i=some v∧Q v H
def rIxS:R2:=fun x y H Q=>∃ z i c,x=.str z∧y=.int i∧z.length≤sizeLine∧atI z.cps.toList i=some c∧Q (.str ⟨#[c]⟩) H
theorem ix_list:IxR X (rIxL X.K):=by
 intro value slice pins s σ H x y v u Q I rx ry h hs
 obtain ⟨p,xs,i,z,rfl,rfl,hq,he,q⟩:=h
 cases rx
 obtain ⟨t,rfl⟩:=ry
 obtain ⟨its,r,pl,hz⟩:=I.list hq
 obtain ⟨j,h1,h2,h3,h4,h5⟩:=atI_get he
 obtain ⟨w,ew,rw'⟩:=r.get h2
 have hl:=r.length
 have hn:=line63
 have fin:EP X pins σ Q w s:=⟨z,H,I,rw',q⟩
 by_cases h0:0≤i
 ·have hj:i.toNat=j:=by
   rw [seqIndex_of h0 h5] at h1
   exact Option.some.inj h1
  exact item_listR pl.isList h0 (by omega) (by rw [hj];simpa using ew) fin hs
 ·have hj:(i + (its.toArray.size:Int)).toNat=j:=by
   rw [seqIndex_neg (by omega) h4] at h1
   rw [List.size_toArray,← hl]
   exact Option.some.inj h1
  exact subscriptTail_builtinR (x:=w) pl.isList.typeIs slot_list_getitem.lookup
   (wpAny_getItem_list_neg (Q:=fun r s'=>r=w∧EP X pins σ Q r s') pl.isList (by omega) (by rw [List.size_toArray] <;> omega) (by omega) (by rw [hj];simpa using ew) ⟨rfl,fin⟩) hs
theorem ix_tup:IxR X (rIxT X.K):=by
 intro value slice pins s σ H x y v u Q I rx ry h hs
 obtain ⟨p,xs,i,z,rfl,rfl,hq,he,q⟩:=h
 cases rx
 obtain ⟨t,rfl⟩:=ry
 obtain ⟨its,r,pl,hz⟩:=I.tuple hq
 obtain ⟨j,h1,h2,h3,h4,h5⟩:=atI_get he
 obtain ⟨w,ew,rw'⟩:=r.get h2
 have hl:=r.length
 have hn:=line63
 have fin:EP X pins σ Q w s:=⟨z,H,I,rw',q⟩
 exact subscriptTail_builtinR (x:=w) pl.typeIs slot_tuple_getitem.lookup
  (getItem_tuple (j:=j) (Q:=fun r s'=>r=w∧EP X pins σ Q r s') pl (by omega) (by omega) (by rw [List.size_toArray,← hl];exact h1) (by simpa using ew) ⟨rfl,fin⟩) hs
theorem ix_str:IxR X rIxS:=by
 intro value slice pins s σ H x y v u Q I rx ry h hs
 obtain ⟨z,i,c,rfl,rfl,hz,he,q⟩:=h
 obtain ⟨t,rfl⟩:=rx
 obtain ⟨t',rfl⟩:=ry
 obtain ⟨j,h1,h2,h3,h4,h5⟩:=atI_get he
 have hl:z.cps.toList.length=z.length:=by simp [Str.length]
 rw [hl] at h1 h4 h5
 have hn:=line63
 exact tail_any (typeIs_str s z t) slot_str_getitem.lookup (getItem_str (c:=c) (by
  have e1:decide (i < -(2 ^ 63:Int))=false:=decide_eq_false (by omega)
  have e2:decide (i ≥ 2 ^ 63)=false:=decide_eq_false (by omega)
  rw [e1,e2,Bool.or_false]) (by rw [h1];simpa using h2) ⟨.str ⟨#[c]⟩,H,I.tok _,⟨_,rfl⟩,q⟩) hs
theorem mapSeq_set (its:List Value) (n j:Nat) (u:Value):Obj.mapSeq (·.setIfInBounds j u) { cls:=.type "list",data:=.seq its.toArray n } = { cls:=.type "list",data:=.seq (its.set j u).toArray n }:=by
 simp [Obj.mapSeq]
theorem Inv.lst {pins:List (Addr × Obj)} {σ:St} {H:Hp} {s:Shared} {p:Addr} {xs:List V} (I:Inv X pins σ H s) (h:H p=some (.lst xs)) :
  ∃ (its:List Value) (n:Nat),Vals xs its∧s.heap.get? p=some { cls:=.type "list",data:=.seq its.toArray n }∧xs.length≤sizeLine:=by
 obtain ⟨z,its,n,r,e⟩:=I.hok p _ h
 exact ⟨its,n,r,e,z⟩
theorem Inv.lstUpd {pins:List (Addr × Obj)} {σ:St} {H:Hp} {s:Shared} {p:Addr} {xs ys:List V} {its its':List Value} {n n':Nat} {f:Obj→Obj} (I:Inv X pins σ H s) (h:H p=some (.lst xs))
  (ho:s.heap.get? p=some { cls:=.type "list",data:=.seq its.toArray n }) (hf:f { cls:=.type "list",data:=.seq its.toArray n } = { cls:=.type "list",data:=.seq its'.toArray n' }) (r:Vals ys its') (hz:ys.length≤sizeLine) (t:Nat) :
  Inv X pins σ (upd H p (.lst ys)) { s with heap:=s.heap.update p f,toks:=t }:=by
 have e:(s.heap.update p f).get? p=some { cls:=.type "list",data:=.seq its'.toArray n' }:=by
  rw [Heap.get?_update_self f ho (by rw [hf] <;> rfl),hf]
 refine I.write (x:=p) (e:=p) (by rw [h];trivial) (.inl rfl) (fun b u hb q=>(Heap.get?_update_other _ _ (Ne.symm hb)).trans q) ⟨_,e⟩ ?_
 exact ⟨hz,its',n',r,e⟩
def rSetL:V→V→V→Hp→(Hp→Prop)→Prop:=fun o i v H Q=>∃ p xs k j,o=.ref p∧i=.int k∧H p=some (.lst xs)∧ixN xs.length k=some j∧Q (upd H p (.lst (xs.set j v)))
theorem set_list:PSet X rSetL:=by
 intro pins s σ H o i v ov iv u Q I ro ri rv h
 obtain ⟨p,xs,k,j,rfl,rfl,hp,hj,q⟩:=h
 cases ro
 obtain ⟨t,rfl⟩:=ri
 obtain ⟨its,n,r,ho,hz⟩:=I.lst hp
 obtain ⟨h1,h2,h3,h4⟩:=ixN_seq hj
 have hl:=r.length
 have hn:=line63
 have I':Inv X pins σ (upd H p (.lst (xs.set j v))) { s with heap:=s.heap.update p (Obj.mapSeq (·.setIfInBounds j u)) }:=
  I.lstUpd hp ho (mapSeq_set its n j u) (r.set rv j) (by rw [List.length_set];exact hz) s.toks
 by_cases h0:0≤k
 ·have hk:k.toNat=j:=by
   rw [seqIndex_of h0 h4] at h1
   exact Option.some.inj h1
  exact PySem.W.ki_setAt ho h0 (by omega) (by rw [List.size_toArray,← hl];exact h4) (by rw [hk];exact ⟨_,I',q⟩)
 ·have hk:(k + (its.toArray.size:Int)).toNat=j:=by
   rw [seqIndex_neg (by omega) h3] at h1
   rw [List.size_toArray,← hl]
   exact Option.some.inj h1
  exact PySem.W.ki_setBack ho (by omega) (by rw [List.size_toArray,← hl];exact h3) (by omega) (by rw [hk];exact ⟨_,I',q⟩)
def rSlL (K:PySem.W.Frag):V→Option Int→Option Int→Hp→VK→Prop:=fun x lo hi H Q=>∃ a xs,x=.ref a∧SqL K H a xs∧∀ p,H p=none→Q (.ref p) (upd H p (.lst (cutV xs lo hi)))
def flatV:V→Bool
 | .non=>true
 | .bl _=>true
 | .int _=>true
 | .str _=>true
 | _=>false
def eqV:V→V→Bool
 | .non,.non=>true
 | .bl a,.bl b=>a == b
 | .bl a,.int b=>(if a then 1 else 0) == b
 | .int a,.bl b=>a == (if b then 1 else 0)
 | .int a,.int b=>a == b
 | .str a,.str b=>a == b
 | _,_=>false
theorem eqAt_V {A:Around} {s:Shared} {y x:V} {u v:Value} (ry:RelV y u) (rx:RelV x v) (fy:flatV y=true) (fx:flatV x=true):SeqAt.EqAt A s u v (eqV y x):=by
 cases y with
 | non=>
  cases ry
  cases x with
  | non=>cases rx;exact SeqAt.EqAt.same _
  | bl b=>cases rx;exact SeqAt.EqAt.none_bool b
  | int b=>obtain ⟨t,rfl⟩:=rx;exact SeqAt.EqAt.none_int b t
  | str b=>obtain ⟨t,rfl⟩:=rx;exact SeqAt.EqAt.none_str b t
  | _=>exact absurd (show false=true from fx) Bool.false_ne_true
 | bl a=>
  cases ry
  cases x with
  | non=>cases rx;exact SeqAt.EqAt.bool_none a
  | bl b=>cases rx;exact SeqAt.EqAt.bool_bool a b
  | int b=>obtain ⟨t,rfl⟩:=rx;exact SeqAt.EqAt.bool_int a b t
  | str b=>obtain ⟨t,rfl⟩:=rx;exact SeqAt.EqAt.bool_str a b t
  | _=>exact absurd (show false=true from fx) Bool.false_ne_true
 | int a=>
  obtain ⟨t',rfl⟩:=ry
  cases x with
  | non=>cases rx;exact SeqAt.EqAt.int_none a t'
  | bl b=>cases rx;exact SeqAt.EqAt.int_bool a t' b
  | int b=>obtain ⟨t,rfl⟩:=rx;exact SeqAt.EqAt.int_int a t' b t
  | str b=>obtain ⟨t,rfl⟩:=rx;exact SeqAt.EqAt.int_str a t' b t
  | _=>exact absurd (show false=true from fx) Bool.false_ne_true
 | str a=>
  obtain ⟨t',rfl⟩:=ry
  cases x with
  | non=>cases rx;exact SeqAt.EqAt.str_none a t'
  | bl b=>cases rx;exact SeqAt.EqAt.str_bool a t' b
  | int b=>obtain ⟨t,rfl⟩:=rx;exact SeqAt.EqAt.str_int a t' b t
  | str b=>obtain ⟨t,rfl⟩:=rx;exact SeqAt.EqAt.str_str a t' b t
  | _=>exact absurd (show false=true from fx) Bool.false_ne_true
 | _=>exact absurd (show false=true from fy) Bool.false_ne_true
theorem call_len_seq:CallR X (.builtin "len") (fun xs H Q=>∃ p ys,xs=[.ref p]∧(SqL X.K H p ys∨SqT X.K H p ys)∧Q (.int ys.length) H):=by
 intro pins s σ H xs us Q I r h
 obtain ⟨p,ys,rfl,hq,q⟩:=h
 obtain ⟨u,rfl,rx⟩:=vals1 r
 cases rx
 have hn:=line63
 rcases hq with hq | hq
 ·obtain ⟨its,r',pl,hz⟩:=I.list hq
  have hlen:=r'.length
  exact Calls.call_len_list pl.isList (by simp only [List.size_toArray] <;> omega) ⟨.int ys.length,H,I.tok _,⟨s.toks + 1,by rw [List.size_toArray,hlen]⟩,q⟩
 ·obtain ⟨its,r',pl,hz⟩:=I.tuple hq
  have hlen:=r'.length
  exact len_tuple pl (by simp only [List.size_toArray] <;> omega) ⟨.int ys.length,H,I.tok _,⟨s.toks + 1,by rw [List.size_toArray,hlen]⟩,q⟩
theorem call_len_str:CallR X (.builtin "len") (fun xs H Q=>∃ z,xs=[.str z]∧z.length≤sizeLine∧Q (.int z.length) H):=by
 intro pins s σ H xs us Q I r h
 obtain ⟨z,rfl,hz,q⟩:=h
 obtain ⟨u,rfl,t,rfl⟩:=vals1 r
 have hn:=line63
 exact len_str (by omega) ⟨.int z.length,H,I.tok _,⟨_,rfl⟩,q⟩
theorem CallR.or {f:Value} {r r':List V→Hp→VK→Prop} (h:CallR X f r) (h':CallR X f r'):CallR X f (fun xs H Q=>r xs H Q∨r' xs H Q):=by
 intro pins s σ H xs us Q I rs q
 rcases q with q | q
 ·exact h pins s σ H xs us Q I rs q
 ·exact h' pins s σ H xs us Q I rs q
theorem call_list_of:CallR X (.type "list") (fun xs H Q=>∃ p ys,xs=[.ref p]∧(SqL X.K H p ys∨SqT X.K H p ys)∧∀ l,H l=none→Q (.ref l) (upd H l (.lst ys))):=by
 intro pins s σ H xs us Q I r h
 obtain ⟨p,ys,rfl,hq,q⟩:=h
 obtain ⟨u,rfl,rx⟩:=vals1 r
 cases rx
 have fin:∀ (its:List Value),Vals ys its→ys.length≤sizeLine→∀ (h':Heap) (c':Nat),(∀ b o',s.heap.get? b=some o'→h'.get? b=some o') →
   h'.get? s.heap.objs.size=some { cls:=.type "list",dict:=none,data:=.seq its.toArray c',slots:=#[] }→EP X pins σ Q (.ref s.heap.objs.size) { s with heap:=h' }:=fun its r' hz h' c' kp e=>
  ⟨.ref s.heap.objs.size,_,I.laid (t':=s.toks) kp (Nat.le_refl _) (show ObjOk X.prog X.w _ h' _ (.lst ys) from ⟨hz,its,c',r',e⟩),rfl,q _ (I.hok.fresh (Nat.le_refl _))⟩
 rcases hq with hq | hq
 ·obtain ⟨its,r',pl,hz⟩:=I.list hq
  have hlen:=r'.length
  obtain ⟨o,ho,hc,n,hd⟩:=pl.isList
  exact call_list_seq p (.inl rfl) ho hc hd (fun h' c' kp e=>fin its r' hz h' c' kp e) (by simp only [List.size_toArray] <;> omega)
 ·obtain ⟨its,r',pl,hz⟩:=I.tuple hq
  have hlen:=r'.length
  obtain ⟨o,ho,hc,n,hd⟩:=pl
  exact call_list_seq p (.inr rfl) ho hc hd (fun h' c' kp e=>fin its r' hz h' c' kp e) (by simp only [List.size_toArray] <;> omega)
theorem call_tuple_of:CallR X (.type "tuple") (fun xs H Q=>∃ p ys,xs=[.ref p]∧((SqL X.K H p ys∧∀ l,H l=none→Q (.ref l) (upd H l (.tup ys)))∨(SqT X.K H p ys∧Q (.ref p) H))):=by
 intro pins s σ H xs us Q I r h
 obtain ⟨p,ys,rfl,h⟩:=h
 obtain ⟨u,rfl,rx⟩:=vals1 r
 cases rx
 rcases h with ⟨hq,q⟩ | ⟨hq,q⟩
 ·obtain ⟨its,r',pl,hz⟩:=I.list hq
  have hlen:=r'.length
  refine call_tuple_list pl.isList (fun h' kp=>?_) (by simp only [List.size_toArray] <;> omega)
  have I1:Inv X pins σ H { s with heap:=h' }:=I.kept (t':=s.toks) kp
  have I2:Inv X pins σ (upd H h'.objs.size (.tup ys)) { s with heap:=h'.push { cls:=.type "tuple",data:=.seq its.toArray } }:=
   I1.laid (t':=s.toks) (fun b o e=>Heap.get?_push_of_some _ e) (Nat.le_refl _) (show ObjOk X.prog X.w _ _ _ (.tup ys) from ⟨hz,its,r',IsTup.new _ _⟩)
  exact ⟨.ref h'.objs.size,_,I2,rfl,q _ (I1.hok.fresh (Nat.le_refl _))⟩
 ·obtain ⟨its,r',pl,hz⟩:=I.tuple hq
  exact call_tuple_same pl ⟨.ref p,H,I,rfl,q⟩
def tyV (K:PySem.W.Frag) (T:String) (x:V) (H:Hp):Prop:=match x with
 | .str _=>T = "str"
 | .int _=>T = "int"
 | .ref p=>(T = "list"∧∃ xs,SqL K H p xs)∨(T = "tuple"∧∃ o,K.lookup p=some o∧o.cls=.type "tuple"∧o.dict=none) ∨
   (T = "dict"∧((∃ kvs,H p=some (.dK kvs))∨∃ kvs,H p=some (.dT kvs)))∨(T = "set"∧∃ S n,H p=some (.set S n))
 | _=>False
theorem tyV_is {pins:List (Addr × Obj)} {σ:St} {H:Hp} {s:Shared} {T:String} {x:V} {v:Value} (I:Inv X pins σ H s) (r:RelV x v) (ty:tyV X.K T x H) :
  s.TypeIs v T∧∀ a,v=.ref a→∃ ob,s.heap.get? a=some ob∧ob.dict=none:=by
 cases x with
 | str z=>
  obtain ⟨t,rfl⟩:=r
  cases (show T = "str" from ty)
  exact ⟨typeIs_str s z t,fun _ e=>nomatch e⟩
 | int i=>
  obtain ⟨t,rfl⟩:=r
  cases (show T = "int" from ty)
  exact ⟨typeIs_int s i t,fun _ e=>nomatch e⟩
 | ref p=>
  cases r
  rcases ty with ⟨rfl,xs,hq⟩ | ⟨rfl,o,hk,hc,hd⟩ | ⟨rfl,hk⟩ | ⟨rfl,S,n,hk⟩
  ·obtain ⟨its,_,pl,_⟩:=I.list hq
   refine ⟨pl.isList.typeIs,fun a e=>?_⟩
   cases e
   obtain ⟨o,n,e,c,hd,_⟩:=pl
   exact ⟨o,e,hd⟩
  ·refine ⟨⟨o,I.kIn p o hk,hc⟩,fun a e=>?_⟩
   cases e
   exact ⟨o,I.kIn _ o hk,hd⟩
  ·have z:∃ o,s.heap.get? p=some o∧o.ExactDict:=by
    rcases hk with ⟨kvs,hk⟩ | ⟨kvs,hk⟩
    ·obtain ⟨_,_,_,_,o,_,_,e,ex,_⟩:=I.hok p _ hk
     exact ⟨o,e,ex⟩
    ·obtain ⟨_,_,_,_,o,_,_,e,ex,_⟩:=I.hok p _ hk
     exact ⟨o,e,ex⟩
   obtain ⟨o,e,ex⟩:=z
   refine ⟨⟨o,e,ex.1⟩,fun a e2=>?_⟩
   cases e2
   exact ⟨o,e,ex.2.1⟩
  ·obtain ⟨o,_,_,_,e,ex,_⟩:=I.hok p _ hk
   refine ⟨⟨o,e,ex.1⟩,fun a e2=>?_⟩
   cases e2
   exact ⟨o,e,ex.2.1⟩
 | _=>exact False.elim ty
def tBM0 (K:PySem.W.Frag) (T:String) (r:V→List V→Hp→VK→Prop) (to:TE):TE:=fun σ H Q=>to σ H fun x H1=>tyV K T x H1∧r x [] H1 Q
def tBM (K:PySem.W.Frag) (T:String) (r:V→List V→Hp→VK→Prop) (to:TE) (t:TA):TE:=fun σ H Q=>to σ H fun x H1=>tyV K T x H1∧t σ H1 fun xs H2=>r x xs H2 Q
variable {o e:Expr} {es:List Expr} {to:TE} {t:TA} {name:Str} {apos cpos:Pos} {T id:String} {r:V→List V→Hp→VK→Prop}
theorem pe_bm0 (pa:PlainAttrs T) (slot:Slot T name id) (hty:typeOf (.builtin id)=pure (.type "method_descriptor")) (hm:MtR X id r) (ho:PE X o to)
  (hbase:attributeBase o name X.env (eval o X.env)=eval o X.env:=by rfl) (hline:(apos.endLine == cpos.line)=true:=by rfl):PE X (.Call (.Attribute o name apos) [] [] cpos) (tBM0 X.K T r to):=by
 intro pins s σ H Q I h
 refine wpAny_Call_method0_late hbase hline (thn (ho pins s σ H _ I h) fun v s1 ⟨x,H1,I1,r1,ty,q1⟩=>?_)
 obtain ⟨h1,h2⟩:=tyV_is I1 r1 ty
 exact ⟨T,id,pa,slot,hty,h1,h2,Calls.callWith_builtin rfl (PySem.evalArgs_none (hm pins s1 σ H1 x [] v [] Q I1 r1 .nil q1))⟩
theorem pe_bm (pa:PlainAttrs T) (slot:Slot T name id) (hty:typeOf (.builtin id)=pure (.type "method_descriptor")) (hm:MtR X id r) (ho:PE X o to) (ha:PA X (e :: es) t)
  (hbase:attributeBase o name X.env (eval o X.env)=eval o X.env:=by rfl)
  (hfew:((backTo cpos (starEach (e :: es) X.env)).all (fun x=>!x.1) && (backToKw cpos (keywordEach [] X.env)).all (fun x=>x.1.isSome)
   && decide ((e :: es).length + ([]:List Keyword).length + (if ([]:List Keyword).isEmpty then 0 else 1) < 30))=true:=by rfl)
  (hline:(apos.endLine == cpos.line)=true:=by rfl) (hs:starEach (e :: es) X.env=(false,eval e X.env) :: starEach es X.env:=by rfl) (hplain:(backTo cpos (starEach es X.env)).any (·.1)=false:=by rfl) :
  PE X (.Call (.Attribute o name apos) (e :: es) [] cpos) (tBM X.K T r to t):=by
 intro pins s σ H Q I h
 refine wpAny_Call_method_late hbase hfew hline rfl (thn (ho pins s σ H _ I h) fun v s1 ⟨x,H1,I1,r1,ty,q1⟩=>?_)
 obtain ⟨h1,h2⟩:=tyV_is I1 r1 ty
 refine ⟨T,id,pa,slot,hty,h1,h2,?_⟩
 have hA:=ha cpos pins s1 σ H1 _ I1 q1
 rw [hs] at hA ⊢
 refine Calls.callWith_builtin (by show (false || (backTo cpos (starEach es X.env)).any (·.1))=false;rw [hplain] <;> rfl) (Calls.evalArgs_plain ?_)
 exact thn hA fun us s2 ⟨vs,H2,I2,r2,q2⟩=>hm pins s2 σ H2 x vs v us Q I2 r1 r2 q2
end
end L2
namespace L2
open PySem PySem.Spec PyProof.Rows
def MtM (X:Cx) (id:String) (r:V→List V→Hp→VK→Prop):Prop:=
 ∀ (pins:List (Addr × Obj)) (s:Shared) (σ:St) (H:Hp) (x:V) (xs:List V) (v:Value) (us:List Value) (Q:VK),Inv X pins σ H s→RelV x v→Vals xs us→r x xs H Q →
  wpAny (model X.prog X.w) X.A (call (.builtin id) (v :: us)) (EP X pins σ Q) X.xe s
theorem Vals.one:∀ {x:V} {us:List Value},Vals [x] us→∃ u,us=[u]∧RelV x u
 | _,_,.cons r .nil=>⟨_,rfl,r⟩
theorem Vals.two:∀ {x y:V} {us:List Value},Vals [x,y] us→∃ u v,us=[u,v]∧RelV x u∧RelV y v
 | _,_,_,.cons r (.cons q .nil)=>⟨_,_,rfl,r,q⟩
theorem Vals.zero:∀ {us:List Value},Vals [] us→us=[]
 | _,.nil=>rfl
theorem Vals.dropLast {xs:List V} {us:List Value} (h:Vals xs us):Vals xs.dropLast us.dropLast:=by
 induction h with
 | nil=>exact .nil
 | cons r t ih=>
  cases t with
  | nil=>exact .nil
  | cons q t'=>exact .cons r ih
theorem Vals.eraseIdx:∀ {xs:List V} {us:List Value} (i:Nat),Vals xs us→Vals (xs.eraseIdx i) (us.eraseIdx i)
 | _,_,_,.nil=>.nil
 | _,_,0,.cons _ t=>t
 | _,_,i + 1,.cons r t=>.cons r (Vals.eraseIdx i t)
theorem Vals.reverse {xs:List V} {us:List Value} (h:Vals xs us):Vals xs.reverse us.reverse:=by
 induction h with
 | nil=>exact .nil
 | cons r t ih=>rw [List.reverse_cons,List.reverse_cons];exact Vals.append ih (.cons r .nil)
theorem Vals.rep {xs:List V} {us:List Value} (h:Vals xs us):∀ k:Nat,Vals (List.replicate k xs).flatten (List.replicate k us).flatten
 | 0=>.nil
 | k + 1=>by
  rw [List.replicate_succ,List.replicate_succ,List.flatten_cons,List.flatten_cons]
  exact Vals.append h (Vals.rep h k)
theorem erase_last {α:Type} (l:List α):l.eraseIdx (l.length - 1)=l.dropLast:=by
 induction l with
 | nil=>rfl
 | cons a r ih=>
  cases r with
  | nil=>rfl
  | cons b r=>
   have e:(a :: b :: r).length - 1=((b :: r).length - 1) + 1:=by
    have h1:(a :: b :: r).length=r.length + 2:=rfl
    have h2:(b :: r).length=r.length + 1:=rfl
    omega
   rw [e,List.eraseIdx_cons_succ,ih]
   all_goals rfl
section
variable {X:Cx} {pins:List (Addr × Obj)} {σ:St} {H:Hp} {s:Shared} {l b:Addr} {xs ys zs:List V}
theorem Inv.lset {its its':List Value} {n:Nat} {f:Array Value→Array Value} {t':Nat} (I:Inv X pins σ H s) (hH:H l=some (.lst xs))
  (e:s.heap.get? l=some { cls:=.type "list",data:=.seq its.toArray n }) (hf:f its.toArray=its'.toArray) (hv:Vals ys its') (hz:ys.length≤sizeLine) :
  Inv X pins σ (upd H l (.lst ys)) { s with heap:=s.heap.update l (Obj.mapSeq f),toks:=t' }:=by
 have q:=PySem.IsL.update e f
 rw [hf] at q
 refine I.write (x:=l) (e:=l) (by rw [hH];exact trivial) (.inl rfl) (fun b' u hb hu=>(Heap.get?_update_other s.heap (Obj.mapSeq f) (Ne.symm hb)).trans hu) ⟨_,q⟩ ?_
 exact ⟨hz,its',_,hv,q⟩
theorem Inv.lnew {its:List Value} {t':Nat} (I:Inv X pins σ H s) (hv:Vals ys its) (hz:ys.length≤sizeLine) :
  Inv X pins σ (upd H s.heap.objs.size (.lst ys)) { s with heap:=s.heap.push { cls:=.type "list",data:=.seq its.toArray },toks:=t' }:=
 I.laid (fun _ _ q=>Heap.get?_push_of_some _ q) (Nat.le_refl _) ⟨hz,its,0,hv,Heap.get?_push_size _ rfl⟩
theorem Inv.fresh (I:Inv X pins σ H s):H s.heap.objs.size=none:=I.hok.fresh (Nat.le_refl _)
theorem Inv.lstM (I:Inv X pins σ H s) (hH:H l=some (.lst xs)):xs.length≤sizeLine∧∃ (its:List Value) (n:Nat),Vals xs its∧xs.length=its.length∧s.heap.get? l=some { cls:=.type "list",data:=.seq its.toArray n }:=by
 obtain ⟨z,its,n,r,e⟩:=I.hok l _ hH
 exact ⟨z,its,n,r,r.length,e⟩
theorem notLongL {n:Nat} (h:n≤sizeLine):Builtin.List.listTooLong n=false:=by
 unfold Builtin.List.listTooLong
 exact decide_eq_false (by omega)
end
section
variable {X:Cx}
def rAppend:V→List V→Hp→VK→Prop:=fun x vs H Q=>∃ l xs y,x=.ref l∧vs=[y]∧H l=some (.lst xs)∧xs.length < sizeLine∧Q .non (upd H l (.lst (xs ++ [y])))
theorem mt_append:MtM X "list.append" rAppend:=by
 intro pins s σ H x vs v us Q I rx rv h
 obtain ⟨l,xs,y,rfl,rfl,hH,hz,q⟩:=h
 cases rx
 obtain ⟨u,rfl,ru⟩:=rv.one
 obtain ⟨z,its,n,r,hl,e⟩:=I.lstM hH
 refine call_meets F.slot_list_append ⟨_,e,rfl⟩ F.entry_list_append (F.args_list_append_2 _ _) (PySem.list_append l its.toArray n u (by rw [List.size_toArray];omega)) ⟨e,?_⟩
 refine ⟨.non,_,I.lset (its':=its ++ [u]) hH e (by simp) (r.append (.cons ru .nil)) ?_,rfl,q⟩
 rw [List.length_append,List.length_singleton]
 omega
def rExtend:V→List V→Hp→VK→Prop:=fun x vs H Q=>∃ l b xs zs,x=.ref l∧vs=[.ref b]∧H l=some (.lst xs)∧H b=some (.lst zs)∧xs.length + zs.length≤sizeLine∧Q .non (upd H l (.lst (xs ++ zs)))
theorem mt_extend:MtM X "list.extend" rExtend:=by
 intro pins s σ H x vs v us Q I rx rv h
 obtain ⟨l,b,xs,zs,rfl,rfl,hH,hB,hz,q⟩:=h
 cases rx
 obtain ⟨u,rfl,ru⟩:=rv.one
 cases ru
 obtain ⟨z,its,n,r,hl,e⟩:=I.lstM hH
 obtain ⟨z2,its2,n2,r2,hl2,e2⟩:=I.lstM hB
 have hsz:its.toArray.size + its2.toArray.size≤sizeLine:=by rw [List.size_toArray,List.size_toArray];omega
 have hlong:¬ (!its.toArray.isEmpty && Builtin.List.listTooLong (its.toArray.size + its2.toArray.size))=true:=by
  rw [notLongL hsz,Bool.and_false]
  exact Bool.false_ne_true
 refine call_meets F.slot_list_extend ⟨_,e,rfl⟩ F.entry_list_extend (F.args_list_extend_2 _ _)
  (AutoSeq1.list_extend_list_list_0 l its.toArray n b its2.toArray n2 hlong (by rw [List.size_toArray];omega) (by omega)) ⟨e,e2,?_⟩
 refine ⟨.non,_,I.lset (its':=its ++ its2) hH e (by simp) (r.append r2) ?_,rfl,q⟩
 rw [List.length_append]
 omega
def rPop:V→List V→Hp→VK→Prop:=fun x vs H Q=>∃ l xs y,x=.ref l∧vs=[]∧H l=some (.lst xs)∧xs[xs.length - 1]?=some y∧Q y (upd H l (.lst xs.dropLast))
theorem mt_pop:MtM X "list.pop" rPop:=by
 intro pins s σ H x vs v us Q I rx rv h
 obtain ⟨l,xs,y,rfl,rfl,hH,hy,q⟩:=h
 cases rx
 have hus:=rv.zero
 subst hus
 obtain ⟨z,its,n,r,hl,e⟩:=I.lstM hH
 obtain ⟨u,hu,ru⟩:=r.get hy
 have hy':its.toArray[its.toArray.size - 1]?=some u:=by
  show its.toArray[its.length - 1]?=some u
  rw [← Array.getElem?_toList,← hl]
  exact hu
 refine call_meets F.slot_list_pop ⟨_,e,rfl⟩ F.entry_list_pop (F.args_list_pop_1 _) (MeetsSeq.list_pop_last l its.toArray n u hy' (by rw [List.size_toArray];omega)) ⟨e,?_⟩
 refine ⟨y,_,I.lset (its':=its.dropLast) hH e ?_ r.dropLast ?_,ru,q⟩
 ·show its.toArray.eraseIdxIfInBounds (its.toArray.size - 1)=its.dropLast.toArray
  rw [List.size_toArray,List.eraseIdxIfInBounds_toArray,erase_last]
 ·rw [List.length_dropLast]
  omega
def rReverse:V→List V→Hp→VK→Prop:=fun x vs H Q=>∃ l xs,x=.ref l∧vs=[]∧H l=some (.lst xs)∧Q .non (upd H l (.lst xs.reverse))
def rClear:V→List V→Hp→VK→Prop:=fun x vs H Q=>∃ l xs,x=.ref l∧vs=[]∧H l=some (.lst xs)∧Q .non (upd H l (.lst []))
def rCat:R2:=fun x y H Q=>∃ l b xs zs,x=.ref l∧y=.ref b∧H l=some (.lst xs)∧H b=some (.lst zs)∧xs.length + zs.length≤sizeLine∧∀ p,H p=none→Q (.ref p) (upd H p (.lst (xs ++ zs)))
theorem op_cat:OpR X (binaryOp .Add) rCat:=by
 intro pins s σ H x y v u Q I rx ry h
 obtain ⟨l,b,xs,zs,rfl,rfl,hH,hB,hz,q⟩:=h
 cases rx
 cases ry
 obtain ⟨z,its,n,r,hl,e⟩:=I.lstM hH
 obtain ⟨z2,its2,n2,r2,hl2,e2⟩:=I.lstM hB
 refine PySem.P.add_list e e2 ?_ (by rw [List.size_toArray,List.size_toArray];omega)
 have ea:its.toArray ++ its2.toArray=(its ++ its2).toArray:=by simp
 rw [ea]
 exact ⟨.ref _,_,I.lnew (t':=s.toks) (r.append r2) (by rw [List.length_append];omega),rfl,q _ I.fresh⟩
def rRep:R2:=fun x y H Q=>∃ l k xs,x=.ref l∧y=.int k∧H l=some (.lst xs)∧-(2 ^ 63)≤k∧k < 2 ^ 63∧xs.length * k.toNat≤sizeLine ∧
 ∀ p,H p=none→Q (.ref p) (upd H p (.lst (List.replicate k.toNat xs).flatten))
end
section
variable {prog:Program} {w:World} {A:Around} {E:Value→Shared→Prop} {s:Shared}
end
section
variable {X:Cx}
end
end L2
namespace L2
open PySem PySem.Spec PyProof.Rows
section
variable {κ:Type} [DecidableEq κ]
def valV (kvs:List (κ × V)) (k:κ):Option V:=(kvs.find? fun kv=>decide (kv.1=k)).map (·.2)
def putK (kvs:List (κ × V)) (k:κ) (v:V):List (κ × V):=
 if (kvs.any fun kv=>decide (kv.1=k))=true then kvs.map (fun kv=>if kv.1=k then (kv.1,v) else kv) else kvs ++ [(k,v)]
def dropK (kvs:List (κ × V)) (k:κ):List (κ × V):=kvs.filter fun kv=>decide (kv.1≠k)
theorem valV_pos {p:κ × V} {r:List (κ × V)} {k:κ} (e:p.1=k):valV (p :: r) k=some p.2:=by simp [valV,List.find?_cons,e]
theorem valV_neg {p:κ × V} {r:List (κ × V)} {k:κ} (e:¬ p.1=k):valV (p :: r) k=valV r k:=by simp [valV,List.find?_cons,e]
theorem valV_any (k:κ):∀ kvs:List (κ × V),(kvs.any fun kv=>decide (kv.1=k))=(valV kvs k).isSome
 | []=>rfl
 | p :: r=>by
  rw [List.any_cons]
  by_cases e:p.1=k
  ·simp only [valV_pos e,decide_eq_true e,Bool.true_or,Option.isSome_some]
  ·rw [valV_neg e,decide_eq_false e,Bool.false_or];exact valV_any k r
theorem length_putK (kvs:List (κ × V)) (k:κ) (v:V):(putK kvs k v).length≤kvs.length + 1:=by
 unfold putK
 split
 ·rw [List.length_map];omega
 ·rw [List.length_append,List.length_cons,List.length_nil];omega
theorem putK_new {kvs:List (κ × V)} {k:κ} (v:V) (h:valV kvs k=none):putK kvs k v=kvs ++ [(k,v)]:=by
 unfold putK
 rw [valV_any,h]
 exact if_neg (by decide)
theorem RelO.isSome_eq {o:Option V} {u:Option Value} (r:RelO o u):o.isSome=u.isSome:=by
 cases o with
 | none=>cases u with
  | none=>rfl
  | some _=>exact (show False from r).elim
 | some _=>cases u with
  | none=>exact (show False from r).elim
  | some _=>rfl
theorem RelO.getD {o:Option V} {u:Option Value} {d:V} {d':Value} (r:RelO o u) (rd:RelV d d'):RelV (o.getD d) (u.getD d'):=by
 cases o with
 | none=>cases u with
  | none=>exact rd
  | some _=>exact (show False from r).elim
 | some _=>cases u with
  | none=>exact (show False from r).elim
  | some _=>exact r
theorem KV.val {kvs:List (κ × V)} {vs:List (κ × Value)} (r:KV kvs vs) (k:κ):RelO (valV kvs k) (valueAt vs k):=by
 unfold KV at r
 induction r with
 | nil=>exact True.intro
 | @cons p q ps qs h t ih=>
  obtain ⟨h1,h2⟩:=h
  by_cases e:p.1=k
  ·have e':q.1=k:=h1.symm.trans e
   have b:valueAt (q :: qs) k=some q.2:=by simp [valueAt,List.find?_cons,e']
   rw [valV_pos e,b];exact h2
  ·have e':¬ q.1=k:=fun z=>e (h1.trans z)
   have b:valueAt (q :: qs) k=valueAt qs k:=by simp [valueAt,List.find?_cons,e']
   rw [valV_neg e,b];exact ih
theorem KV.any {kvs:List (κ × V)} {vs:List (κ × Value)} (r:KV kvs vs) (k:κ):(kvs.any fun kv=>decide (kv.1=k))=vs.any fun kv=>decide (kv.1=k):=by
 unfold KV at r
 induction r with
 | nil=>rfl
 | cons h t ih=>rw [List.any_cons,List.any_cons,ih,h.1]
theorem KV.repl {kvs:List (κ × V)} {vs:List (κ × Value)} (r:KV kvs vs) (k:κ) {y:V} {u:Value} (ry:RelV y u) :
  KV (kvs.map fun kv=>if kv.1=k then (kv.1,y) else kv) (vs.map fun kv=>if kv.1=k then (kv.1,u) else kv):=by
 unfold KV at r ⊢
 induction r with
 | nil=>exact .nil
 | @cons p q ps qs h t ih=>
  rw [List.map_cons,List.map_cons]
  refine .cons ?_ ih
  obtain ⟨h1,h2⟩:=h
  by_cases e:p.1=k
  ·rw [if_pos e,if_pos (h1.symm.trans e)];exact ⟨h1,ry⟩
  ·rw [if_neg e,if_neg (fun z=>e (h1.trans z))];exact ⟨h1,h2⟩
theorem KV.put {kvs:List (κ × V)} {vs:List (κ × Value)} (r:KV kvs vs) (k:κ) {y:V} {u:Value} (ry:RelV y u):KV (putK kvs k y) (stored vs k u):=by
 unfold putK stored
 rw [r.any k]
 by_cases e:(vs.any fun kv=>decide (kv.1=k))=true
 ·rw [if_pos e,if_pos e];exact r.repl k ry
 ·rw [if_neg e,if_neg e];exact Paired.snoc r ⟨rfl,ry⟩
theorem KV.drop {kvs:List (κ × V)} {vs:List (κ × Value)} (r:KV kvs vs) (k:κ):KV (dropK kvs k) (without vs k):=by
 unfold KV at r ⊢
 unfold dropK without
 induction r with
 | nil=>exact .nil
 | @cons p q ps qs h t ih=>
  obtain ⟨h1,h2⟩:=h
  rw [List.filter_cons,List.filter_cons]
  by_cases e:p.1=k
  ·have a:¬ decide (p.1≠k)=true:=by simp [e]
   have b:¬ decide (q.1≠k)=true:=by simp [h1.symm.trans e]
   rw [if_neg a,if_neg b];exact ih
  ·have e':¬ q.1=k:=fun z=>e (h1.trans z)
   have a:decide (p.1≠k)=true:=by simp [e]
   have b:decide (q.1≠k)=true:=by simp [e']
   rw [if_pos a,if_pos b];exact .cons ⟨h1,h2⟩ ih
theorem KV.keys {kvs:List (κ × V)} {vs:List (κ × Value)} (r:KV kvs vs):kvs.map (·.1)=vs.map (·.1):=by
 unfold KV at r
 induction r with
 | nil=>rfl
 | cons h t ih=>rw [List.map_cons,List.map_cons,ih,h.1]
theorem KV.length {kvs:List (κ × V)} {vs:List (κ × Value)} (r:KV kvs vs):kvs.length=vs.length:=Paired.length r
end
theorem kV_is {P:Program} {w:World} {k:Key} {u:Value} (r:RelV (kV k) u):(mixKind P w).is k u=true:=by
 cases k with
 | inl i=>obtain ⟨t,e⟩:=(show ∃ t,u=Value.int i t from r);subst e;exact mixKind_int P w i t
 | inr x=>obtain ⟨t,e⟩:=(show ∃ t,u=Value.str x t from r);subst e;exact mixKind_str P w x t
theorem items_are {P:Program} {w:World}:∀ {ks:List Key} {us:List Value},Vals (ks.map kV) us→ItemsAre (mixKind P w) ks us
 | [],_,r=>by rw [List.map_nil] at r;cases r;exact .nil
 | k :: ks,_,r=>by
  rw [List.map_cons] at r
  cases r with
  | cons h t=>exact .cons (kV_is h) (items_are t)
abbrev KT (H:Hp):List (List Key × V)→List (List Key × Addr × Value)→Prop:=Paired fun p q=>p.1=q.1∧H q.2.1=some (.tup (p.1.map kV))∧RelV p.2 q.2.2
theorem KT.val {H:Hp} {kvs:List (List Key × V)} {xs:List (List Key × Addr × Value)} (r:KT H kvs xs) (k:List Key):RelO (valV kvs k) ((atKey xs k).map (·.2)):=by
 induction r with
 | nil=>exact True.intro
 | @cons p q ps qs h t ih=>
  obtain ⟨h1,_,h2⟩:=h
  by_cases e:p.1=k
  ·have e':q.1=k:=h1.symm.trans e
   have b:atKey (q :: qs) k=some q.2:=by simp [atKey,List.find?_cons,e']
   rw [valV_pos e,b];exact h2
  ·have e':¬ q.1=k:=fun z=>e (h1.trans z)
   have b:atKey (q :: qs) k=atKey qs k:=by simp [atKey,List.find?_cons,e']
   rw [valV_neg e,b];exact ih
theorem KT.repl {H:Hp} {kvs:List (List Key × V)} {xs:List (List Key × Addr × Value)} (r:KT H kvs xs) (k:List Key) {y:V} {u:Value} (ry:RelV y u) :
  KT H (kvs.map fun kv=>if kv.1=k then (kv.1,y) else kv) (xs.map (putAt k u)):=by
 induction r with
 | nil=>exact .nil
 | @cons p q ps qs h t ih=>
  rw [List.map_cons,List.map_cons]
  refine .cons ?_ ih
  obtain ⟨h1,h2,h3⟩:=h
  unfold putAt
  by_cases e:p.1=k
  ·rw [if_pos e,if_pos (h1.symm.trans e)];exact ⟨h1,h2,ry⟩
  ·rw [if_neg e,if_neg (fun z=>e (h1.trans z))];exact ⟨h1,h2,h3⟩
theorem KT.put {H:Hp} {kvs:List (List Key × V)} {xs:List (List Key × Addr × Value)} (r:KT H kvs xs) (k:List Key) {b:Addr} {y:V} {u:Value} (hb:H b=some (.tup (k.map kV))) (ry:RelV y u) :
  KT H (putK kvs k y) (storedH xs k b u):=by
 have e:(kvs.any fun kv=>decide (kv.1=k))=(atKey xs k).isSome:=by
  rw [valV_any,(r.val k).isSome_eq,Option.isSome_map]
 unfold putK storedH
 rw [e]
 by_cases q:(atKey xs k).isSome=true
 ·rw [if_pos q,if_pos q];exact r.repl k ry
 ·rw [if_neg q,if_neg q];exact Paired.snoc r ⟨rfl,hb,ry⟩
theorem KT.keeps {H H':Hp} {kvs:List (List Key × V)} {xs:List (List Key × Addr × Value)} (r:KT H kvs xs) (ht:∀ b ys,H b=some (.tup ys)→H' b=some (.tup ys)):KT H' kvs xs:=
 Paired.mapP r fun _ _ z=>⟨z.1,ht _ _ z.2.1,z.2.2⟩
section
variable {P:Program} {w:World} {H:Hp} {h:Heap} {a:Addr}
theorem rd_of {u:HO} (ok:HOk P w H h) (e:Rd H a u):ObjOk P w H h a u:=e.ok ok
theorem dk_rd {kvs:List (Key × V)} (ok:HOk P w H h) (e:Rd H a (.dK kvs)):kvs.length≤sizeLine∧(a == sysModules)=false∧∃ vs,KV kvs vs∧h.DictOf (mixKind P w) a vs:=
 show ObjOk P w H h a (.dK kvs) from rd_of ok e
theorem dk_of {kvs:List (Key × V)} (ok:HOk P w H h) (e:H a=some (.dK kvs)):kvs.length≤sizeLine∧(a == sysModules)=false∧∃ vs,KV kvs vs∧h.DictOf (mixKind P w) a vs:=dk_rd ok (.inl e)
theorem key_of {ks:List Key} (ok:HOk P w H h) (e:H a=some (.tup (ks.map kV))):(tupleKind (mixKind P w)).is h ks a:=by
 obtain ⟨_,its,r,o,h1,h2,n,h3⟩:=(show ObjOk P w H h a (.tup (ks.map kV)) from ok a _ e)
 exact ⟨o,its.toArray,n,h1,h2,h3,by simpa using items_are r⟩
theorem dt_rd {kvs:List (List Key × V)} (ok:HOk P w H h) (e:Rd H a (.dT kvs)):kvs.length≤sizeLine∧(a == sysModules)=false ∧
  ∃ xs,KT H kvs xs∧h.DictOfH (tupleKind (mixKind P w)) a xs:=by
 obtain ⟨z,y,xs,r,o,es,ep,h1,h2,h3,h4,h5⟩:=(show ObjOk P w H h a (.dT kvs) from rd_of ok e)
 refine ⟨z,y,xs,r,o,es,ep,h1,h2,h3,h4,fun x hx=>?_,h5⟩
 have all:∀ {l:List (List Key × V)} {m:List (List Key × Addr × Value)},KT H l m→∀ x∈m,(tupleKind (mixKind P w)).is h x.1 x.2.1:=by
  intro l m q
  induction q with
  | nil=>intro x hx;exact nomatch hx
  | @cons p q ps qs hq t ih=>
   intro x hx
   rcases List.mem_cons.mp hx with e | hx
   ·subst e
    exact key_of ok (by rw [← hq.1];exact hq.2.1)
   ·exact ih x hx
 exact all r x hx
end
def DGet (H:Hp) (a:Addr) (y:V) (r:Option V):Prop:=
 (∃ kvs k,Rd H a (.dK kvs)∧y=kV k∧r=valV kvs k)∨∃ kvs k b,Rd H a (.dT kvs)∧y=.ref b∧H b=some (.tup (k.map kV))∧r=valV kvs k
def DPut (H:Hp) (a:Addr) (y v:V) (H':Hp):Prop:=
 (∃ kvs k,H a=some (.dK kvs)∧y=kV k∧kvs.length < sizeLine∧H'=upd H a (.dK (putK kvs k v))) ∨
 ∃ kvs k b,H a=some (.dT kvs)∧y=.ref b∧H b=some (.tup (k.map kV))∧kvs.length < sizeLine∧H'=upd H a (.dT (putK kvs k v))
theorem DGet.k {H:Hp} {a:Addr} {kvs:List (Key × V)} {k:Key} (e:H a=some (.dK kvs)):DGet H a (kV k) (valV kvs k):=.inl ⟨kvs,k,.inl e,rfl,rfl⟩
theorem DGet.t {H:Hp} {a b:Addr} {kvs:List (List Key × V)} {k:List Key} (e:H a=some (.dT kvs)) (eb:H b=some (.tup (k.map kV))):DGet H a (.ref b) (valV kvs k):=.inr ⟨kvs,k,b,.inl e,rfl,eb,rfl⟩
theorem DPut.k {H:Hp} {a:Addr} {kvs:List (Key × V)} {k:Key} {v:V} (e:H a=some (.dK kvs)) (hl:kvs.length < sizeLine):DPut H a (kV k) v (upd H a (.dK (putK kvs k v))):=.inl ⟨kvs,k,e,rfl,hl,rfl⟩
theorem DPut.t {H:Hp} {a b:Addr} {kvs:List (List Key × V)} {k:List Key} {v:V} (e:H a=some (.dT kvs)) (eb:H b=some (.tup (k.map kV))) (hl:kvs.length < sizeLine) :
  DPut H a (.ref b) v (upd H a (.dT (putK kvs k v))):=.inr ⟨kvs,k,b,e,rfl,eb,hl,rfl⟩
section
variable {X:Cx} {pins:List (Addr × Obj)} {σ:St} {H:Hp} {s:Shared} {a:Addr} {y v:V} {u r:Value} {o:Option V} {A:Around} {E:Value→Shared→Prop}
theorem Inv.big (I:Inv X pins σ H s):sysModules < s.heap.objs.size:=by
 have h:mainGlobals < s.heap.objs.size:=(I.mod.glob.keeps I.bk).lt
 exact Nat.lt_trans (by decide) h
theorem d_write {h':Heap} {t':Nat} {ob:HO} (I:Inv X pins σ H s) (mu:Mut (H a)) (hs:Heap.SameBut a s.heap h') (he:∃ q,h'.get? a=some q) (new:ObjOk X.prog X.w (upd H a ob) h' a ob) :
  Inv X pins σ (upd H a ob) { s with heap:=h',toks:=t' }:=
 I.write (x:=a) (e:=a) mu (.inl rfl) (fun b q hb z=>(hs.2 b hb).trans z) he new
theorem dk_new {P:Program} {w:World} {H':Hp} {h':Heap} {kvs:List (Key × V)} {vs:List (Key × Value)} (z:kvs.length≤sizeLine) (hd:(a == sysModules)=false) (rel:KV kvs vs) (dd:h'.DictOf (mixKind P w) a vs) :
  ObjOk P w H' h' a (.dK kvs):=⟨z,hd,vs,rel,dd⟩
end
section
variable {X:Cx} {pins:List (Addr × Obj)} {σ:St} {H:Hp} {s:Shared} {a:Addr} {kvs:List (Key × V)} {k:Key} {u:Value} {A:Around} {E:Value→Shared→Prop}
theorem d_len {Q:Value→Shared→Prop} (I:Inv X pins σ H s) (e:Rd H a (.dK kvs)) (h:∀ t s',Inv X pins σ H s'→Q (.int kvs.length t) s'):wpAny (model X.prog X.w) A (call (.builtin "len") [.ref a]) Q E s:=by
 obtain ⟨z,hd,vs,rel,dd⟩:=dk_rd I.hok e
 refine call_len_dict hd dd (by rw [← rel.length];rw [sizeLine_eq] at z;omega) ?_
 rw [← rel.length]
 exact h _ _ (I.tok _)
end
def tDGet (td ty:TE):TE:=fun σ H Q=>td σ H fun x H1=>ty σ H1 fun y H2=>∃ a v,x=.ref a∧DGet H2 a y (some v)∧Q v H2
def tDIn (ty td:TE):TE:=fun σ H Q=>ty σ H fun y H1=>td σ H1 fun x H2=>∃ a o,x=.ref a∧DGet H2 a y o∧Q (.bl o.isSome) H2
def tDNotIn (ty td:TE):TE:=fun σ H Q=>ty σ H fun y H1=>td σ H1 fun x H2=>∃ a o,x=.ref a∧DGet H2 a y o∧Q (.bl (!o.isSome)) H2
def sDPut (td ty tv:TE):TS:=fun D σ H=>tv σ H fun v H1=>td σ H1 fun x H2=>ty σ H2 fun y H3=>∃ a H4,x=.ref a∧DPut H3 a y v H4∧D.nx σ H4
section
variable {X:Cx} {o i e value:Expr} {pos pos' tpos:Pos} {td ty tv:TE}
end
theorem dk_empty {P:Program} {w:World} {H:Hp} (h:Heap) (hb:sysModules < h.objs.size):ObjOk P w H (h.push { cls:=.type "dict",data:=.dict #[] }) h.objs.size (.dK []):=
 ⟨Nat.zero_le _,beq_eq_false_iff_ne.mpr (Ne.symm (Nat.ne_of_lt hb)),[],.nil,Heap.DictOf.new h⟩
def tDNewK:TE:=fun _ H Q=>∀ p,H p=none→Q (.ref p) (upd H p (.dK []))
section
variable {X:Cx} {pos:Pos}
end
def tPairs:List (TE × TE)→St→Hp→(List (V × V)→Hp→Prop)→Prop
 | [],_,H,Q=>Q [] H
 | (tk,tv) :: r,σ,H,Q=>tk σ H fun x H1=>tv σ H1 fun y H2=>tPairs r σ H2 fun ps H3=>Q ((x,y) :: ps) H3
abbrev VV:List (V × V)→List (Value × Value)→Prop:=Paired fun p q=>RelV p.1 q.1∧RelV p.2 q.2
def PPs (X:Cx) (pos:Pos) (keys:List (Option Expr)) (values:List Expr) (trs:List (TE × TE)):Prop:=
 ∀ (pins:List (Addr × Obj)) (s:Shared) (σ:St) (H:Hp) (Q:List (V × V)→Hp→Prop),Inv X pins σ H s→tPairs trs σ H Q →
  wpAny (model X.prog X.w) X.A (evalPairs (pairTrees keys values X.env pos)) (fun vs s'=>∃ ps H',Inv X pins σ H' s'∧VV ps vs∧Q ps H') X.xe s
theorem pps_nil {X:Cx} {pos:Pos}:PPs X pos [] [] []:=fun pins s σ H Q I h=>pairTrees_nil_walk ⟨[],H,I,.nil,h⟩
theorem pps_cons {X:Cx} {pos:Pos} {k v:Expr} {ks:List (Option Expr)} {vs:List Expr} {tk tv:TE} {trs:List (TE × TE)} (hk:PE X k tk) (hv:PE X v tv) (hr:PPs X pos ks vs trs) :
  PPs X pos (some k :: ks) (v :: vs) ((tk,tv) :: trs):=fun pins s σ H Q I h=>
 pairTrees_cons_walk (thn (hk pins s σ H _ I h) fun u s1 ⟨x,H1,I1,rx,q1⟩=>thn (hv pins s1 σ H1 _ I1 q1) fun w2 s2 ⟨y,H2,I2,ry,q2⟩=>
  thn (hr pins s2 σ H2 _ I2 q2) fun ws s3 ⟨ps,H3,I3,rel,q3⟩=>⟨(x,y) :: ps,H3,I3,.cons ⟨rx,ry⟩ rel,q3⟩)
def mergeK (kvs more:List (Key × V)):List (Key × V):=more.foldl (fun acc kv=>putK acc kv.1 kv.2) kvs
theorem KV.merge:∀ {more:List (Key × V)} {rs:List (Key × Value)} {kvs:List (Key × V)} {vs:List (Key × Value)},KV more rs→KV kvs vs→KV (mergeK kvs more) (merged vs rs):=by
 intro more rs kvs vs r
 unfold KV at r
 induction r generalizing kvs vs with
 | nil=>intro q;exact q
 | @cons p q ps qs h t ih=>
  intro r0
  have e:KV (putK kvs p.1 p.2) (stored vs q.1 q.2):=by
   have:=r0.put p.1 h.2
   rw [← h.1];exact this
  exact ih e
theorem length_mergeK:∀ (more kvs:List (Key × V)),(mergeK kvs more).length≤kvs.length + more.length
 | [],kvs=>by show kvs.length≤kvs.length + 0;omega
 | p :: r,kvs=>by
  have h1:=length_mergeK r (putK kvs p.1 p.2)
  have h2:=length_putK kvs p.1 p.2
  show (mergeK (putK kvs p.1 p.2) r).length≤_
  rw [List.length_cons];omega
theorem carries_of {P:Program} {w:World}:∀ {kvs:List (Key × V)} {ws:List (Value × Value)},VV (kvs.map fun kv=>(kV kv.1,kv.2)) ws→∃ rs,Carries (mixKind P w) ws rs∧KV kvs rs
 | [],_,r=>by rw [List.map_nil] at r;cases r;exact ⟨[],True.intro,.nil⟩
 | p :: kvs,_,r=>by
  rw [List.map_cons] at r
  cases r with
  | @cons a b as bs h t=>
   obtain ⟨rs,c,q⟩:=carries_of (P:=P) (w:=w) t
   obtain ⟨b1,b2⟩:=b
   exact ⟨(p.1,b2) :: rs,⟨kV_is h.1,rfl,c⟩,.cons ⟨rfl,h.2⟩ q⟩
def tDisp (trs:List (TE × TE)):TE:=fun σ H Q=>∀ p,H p=none→tPairs trs σ (upd H p (.dK [])) fun ps H2=>H2 p=some (.dK [])∧∃ kvs:List (Key × V),ps=kvs.map (fun kv=>(kV kv.1,kv.2))∧kvs.length≤15∧Q (.ref p) (upd H2 p (.dK (mergeK [] kvs)))
theorem pe_disp {X:Cx} {pos:Pos} {keys:List (Option Expr)} {values:List Expr} {trs:List (TE × TE)} (h:PPs X pos keys values trs) (hall:keys.all (·.isSome)=true) (hl:keys.length=values.length) (h0:keys≠[])
  (h15:keys.length≤15):PE X (.Dict keys values pos) (tDisp trs):=by
 intro pins s σ H Q I q
 have hn:=I.hok.fresh (Nat.le_refl s.heap.objs.size)
 have I1:=I.laid (a:=s.heap.objs.size) (o:=.dK []) (h':=s.heap.push { cls:=.type "dict",data:=.dict #[] }) (t':=s.toks) (fun _ _ q=>Heap.get?_push_of_some _ q) (Nat.le_refl _) (dk_empty s.heap I.big)
 refine wpAny_Dict_walk (knd:=mixKind X.prog X.w) hall hl h0 h15 (thn (h pins _ σ _ _ I1 (q _ hn)) fun ws s2 ⟨ps,H2,I2,rel,e,kvs,ep,lk,q2⟩=>?_)
 subst ep
 obtain ⟨rs,c,rk⟩:=carries_of (P:=X.prog) (w:=X.w) rel
 obtain ⟨z,hd,vs0,r0,dd⟩:=dk_of I2.hok e
 cases r0
 refine ⟨rs,c,dd,fun h' dd' hs=>⟨.ref s.heap.objs.size,_,?_,rfl,q2⟩⟩
 have hz:(mergeK [] kvs).length≤sizeLine:=by
  have h1:=length_mergeK kvs []
  rw [List.length_nil] at h1
  rw [sizeLine_eq];omega
 have he:∃ q,h'.get? s.heap.objs.size=some q:=let ⟨q,_,_,hq,_⟩:=dd';⟨q,hq⟩
 exact d_write I2 (by rw [e];exact True.intro) hs he (dk_new hz hd (rk.merge .nil) dd')
structure M1 (X:Cx) (o:Expr) (m:Str) (apos:Pos) (e:Expr) (cpos:Pos):Prop where
 base:attributeBase o m X.env (eval o X.env)=eval o X.env
 few:((backTo cpos (starEach [e] X.env)).all (fun x=>!x.1) && (backToKw cpos (keywordEach [] X.env)).all (fun x=>x.1.isSome)
  && decide (([e]:List Expr).length + ([]:List Keyword).length + (if ([]:List Keyword).isEmpty then 0 else 1) < 30))=true
 line:(apos.endLine == cpos.line)=true
 trees:backTo cpos (starEach [e] X.env)=[(false,eval e X.env)]
structure M2 (X:Cx) (o:Expr) (m:Str) (apos:Pos) (e f:Expr) (cpos:Pos):Prop where
 base:attributeBase o m X.env (eval o X.env)=eval o X.env
 few:((backTo cpos (starEach [e,f] X.env)).all (fun x=>!x.1) && (backToKw cpos (keywordEach [] X.env)).all (fun x=>x.1.isSome)
  && decide (([e,f]:List Expr).length + ([]:List Keyword).length + (if ([]:List Keyword).isEmpty then 0 else 1) < 30))=true
 line:(apos.endLine == cpos.line)=true
 trees:backTo cpos (starEach [e,f] X.env)=[(false,eval e X.env),(false,eval f X.env)]
def IsD (H:Hp) (a:Addr):Prop:=(∃ kvs,Rd H a (.dK kvs))∨∃ kvs,Rd H a (.dT kvs)
theorem isD_at {X:Cx} {pins:List (Addr × Obj)} {σ:St} {H:Hp} {s:Shared} {a:Addr} (I:Inv X pins σ H s) (d:IsD H a) :
  s.TypeIs (.ref a) "dict"∧(∀ b,Value.ref a=.ref b→∃ ob,s.heap.get? b=some ob∧ob.dict=none)∧(a == sysModules)=false:=by
 rcases d with ⟨kvs,e⟩ | ⟨kvs,e⟩
 ·obtain ⟨_,hd,vs,_,dd⟩:=dk_rd I.hok e
  refine ⟨dd.typeIs,fun b q=>?_,hd⟩
  cases q
  obtain ⟨ob,_,_,h1,h2,_⟩:=dd
  exact ⟨ob,h1,h2.2.1⟩
 ·obtain ⟨_,hd,xs,_,dd⟩:=dt_rd I.hok e
  refine ⟨dd.typeIs,fun b q=>?_,hd⟩
  cases q
  obtain ⟨ob,_,_,h1,h2,_⟩:=dd
  exact ⟨ob,h1,h2.2.1⟩
section
variable {X:Cx} {pins:List (Addr × Obj)} {σ:St} {H:Hp} {s:Shared} {a:Addr} {y d:V} {u r:Value} {o:Option V} {A:Around} {E:Value→Shared→Prop}
end
def tDGet2 (td ty tx:TE):TE:=fun σ H Q=>td σ H fun x H1=>∃ a,x=.ref a∧IsD H1 a∧ty σ H1 fun y H2=>tx σ H2 fun z H3=>∃ o,DGet H3 a y o∧Q (o.getD z) H3
section
variable {X:Cx} {o e f:Expr} {apos cpos:Pos} {td ty tx:TE}
end
section
variable {X:Cx} {pins:List (Addr × Obj)} {σ:St} {H:Hp} {s:Shared} {a:Addr} {kvs:List (Key × V)} {A:Around} {E:Value→Shared→Prop}
end
section
variable {X:Cx} {pins:List (Addr × Obj)} {σ:St} {H:Hp} {s:Shared} {a:Addr} {y:V} {u:Value} {A:Around} {E:Value→Shared→Prop}
end
end L2
namespace Att
open PySem PySem.W PySem.Calls PyProof.Rows
theorem ints_of_wellAll {P:Params} {h:Heap}:∀ (ns:List Int) (vs:List Value),WellAll P h vs (ns.map WData.int)→IntsAre vs ns:=by
 intro ns
 induction ns with
 | nil=>
  intro vs w
  rw [List.map_nil] at w
  cases w
  exact .nil
 | cons n ns ih=>
  intro vs w
  rw [List.map_cons] at w
  cases w with
  | cons a b=>
   cases a
   exact .cons _ _ (ih _ b)
theorem script_of {l:OpenLaw} {n:Nat} (hn:l.most=some n) {P:Params} {h:Heap} {args:List WData} {vals:List Value}
  (hpre:l.row.toRowW.claim.pre args=true) (hwl:WellAll P h vals args) :
  ∃ a vs ns,vals=[Value.ref a]∧args=[WData.list (ns.map WData.int)]∧h.get? a=some { cls:=.type "list",data:=.seq vs.toArray }∧IntsAre vs ns∧ns.length≤n:=by
 have hsh:WShape.hasAll [] args [.list .int]=true:=(pre_splitW hpre).1
 have hc:l.pre.holds [] { args:=args } = true:=(pre_splitW hpre).2
 obtain ⟨d,r,rfl,h1,h2⟩:=hasAllW_cons hsh
 obtain rfl:=hasAllW_nil h2
 obtain ⟨xs,rfl,h3⟩:=hasW_list h1
 obtain ⟨ns,rfl⟩:=items_int h3
 have hlen:ns.length≤n:=by
  unfold OpenLaw.pre at hc
  have h4:(WTm.not (.lt (.lit (.int (n:Int))) (.len (.arg 0)))).holds [] { args:=[.list (ns.map .int)] } = true:=by
   have h4:=(holds_andW hc).1
   rw [hn] at h4
   exact h4
  have h5:=condW_of h4 (w_not (w_lt w_lit (w_len_list (w_arg rfl))))
  rw [List.length_map] at h5
  refine Nat.le_of_not_lt fun q=>?_
  have q':(n:Int) < ((ns.length:Nat):Int):=by omega
  first
   | (rw [decide_eq_true q'] at h5;exact absurd h5 (by decide))
   | (simp at h5;omega)
 cases hwl with
 | cons w1 w2=>
  cases w2
  cases w1 with
  | list ho hall=>exact ⟨_,_,ns,rfl,rfl,ho,ints_of_wellAll ns _ hall,hlen⟩
theorem post_true (l:OpenLaw) (args:List WData):l.row.toRowW.claim.post args (.bool true) args=true:=
 postW_of (r:=l.row.toRowW) (X:=(true == true))
  (show WShape.has [] (.bool true) .bool=true by first | rfl | decide | simp [WShape.has,WShape.arms,WShape.armsAll])
  (show (WTm.eq .res (.lit (.bool true))).value [] { args:=args,res:=some (.bool true),after:=args } = some (.bool (true == true)) from w_eq_bool (w_res rfl) w_lit) rfl
theorem attach_call {l:OpenLaw} {n:Nat} {q:Program} {loose:List Str} {XP:(Str→Option Value)→Heap→Prop} {YP:World→Heap→Prop} {d:DefRec}
  (hn:l.most=some n) (hdf:d.params.defaults=[])
  (call:∀ (w:World) (s₀ s₁:Shared) (mg mb:Str→Option Value) (fa:Addr) (o:Obj) (pm cd doc:Value) (a:Addr) (vs:List Value) (ns:List Int),
   Ground q loose [] XP w s₀ mg mb s₁.heap→YP w s₁.heap →
   s₁.heap.get? fa=some o→o.data=.func (docDef d.name d.params d.body d.scope pm cd doc)→s₁.heap.CodeRec cd d.name→mg d.name=some (.ref fa) →
   s₁.heap.get? a=some { cls:=.type "list",data:=.seq vs.toArray }→IntsAre vs ns→ns.length≤n→s₁.gens=#[] →
   codeAny (model l.prog w) callerA (.call (.ref fa) ⟨[.ref a],[]⟩) (fun r s'=>r=.ok (.ret (.bool true))∧OldK s₁.heap s'.heap∧s'.os=s₁.os∧AllBare s'.gens) s₁) :
  WalkO q loose XP YP l.row.toRowW d [] (fun f vs=>PySem.call f vs):=by
 intro w s₀ s₁ mg mb G Y fa o pm cd doc dV kV ho hd hcd hD hmg hg args vals as hpre hlay hrd hwl hlo
 obtain rfl:dV=.none:=Dflts.none hD hdf
 obtain rfl:kV=.none:=Dflts.noKw hD
 obtain ⟨a,vs,ns,rfl,rfl,hobj,hints,hlen⟩:=script_of hn hpre hwl
 refine enter_call (codeAny_mono (call w s₀ s₁ mg mb fa o pm cd doc a vs ns G Y ho (fd_plain hd) hcd hmg hobj hints hlen hg) fun r s' hq=>?_)
 obtain ⟨rfl,h2,h3,h4⟩:=hq
 exact ⟨.inl ⟨.bool true,.bool true,[],rfl,fun _=>rfl,.bool true,post_true l _,fun _=>⟨List.Pairwise.nil,fun _ hm=>(nomatch hm)⟩⟩,h2,h3,h4⟩
section
variable {prog:Program} {w:World} {A:Around} {E:Value→Shared→Prop} {s:Shared} {K:Frag}
def ledger (h:Heap) (L d:Addr):List (Addr × Obj):=(List.range h.objs.size).filterMap fun a=>if a=L∨a=d then none else (h.get? a).map fun o=>(a,o)
end
end Att
namespace L2
open PySem PySem.Spec PyProof.Rows
theorem vals_ints:∀ {vs:List Value} {ns:List Int},IntsAre vs ns→Vals (ns.map V.int) vs
 | _,_,.nil=>.nil
 | _,_,.cons n t h=>.cons ⟨t,rfl⟩ (vals_ints h)
def Only (H:Hp):Prop:=∀ b,H b=none∨∃ o xs,H b=some (.frz o (.lst xs))
theorem law_call {P:Program} {w:World} {K:PySem.W.Frag} {mg mb:Str→Option Value} {CX:CXT} {k:Nat} {fa a:Addr} {fd:FuncData} {x:Str} {sp:Sp} {s₁:Shared} {vs:List Value} {ns:List Int}
  (KX:K.In s₁.heap) (hns:s₁.heap.Ns mainGlobals mg) (hb:s₁.heap.Ns builtinsNs mb) (hbb:∀ x:Str,x≠"__name__"→mb x=bootBuiltins x) (hlim:s₁.heap.NoLimit) (hg:s₁.gens=#[])
  (ha:s₁.heap.get? a=some { cls:=.type "list",data:=.seq vs.toArray }) (hi:IntsAre vs ns) (hl:ns.length≤sizeLine) (hr:Room k callerA)
  (F:∀ base:Heap,K.In base→base.Ns mainGlobals mg→FnOk P w K mg base CX k fa fd [x] sp) (hbind:∀ (s:Shared) (u:Value),BindsTo s fd ⟨[u],[]⟩ [(x,u)])
  (hsp:∀ H:Hp,Only H→SqL K H a (ns.map V.int)→sp [.ref a] H (fun v _=>v=.bl true) fun _ _ _=>False)
  (hCX:∀ H e s',CX [] H s₁ (fun _ _ _=>False) e s'→False) :
  codeAny (model P w) callerA (.call (.ref fa) ⟨[.ref a],[]⟩) (fun r s'=>r=.ok (.ret (.bool true))∧OldK s₁.heap s'.heap∧s'.os=s₁.os∧AllBare s'.gens) s₁:=by
 have rv:=vals_ints hi
 have lenV:=hi.length
 -- from an abstract heap in which nothing but the script may be tracked
 have core:∀ H:Hp,Only H→SqL K H a (ns.map V.int)→HOk P w H s₁.heap→(∀ b,H b≠none→b=a)→(H a≠none→K.lookup a=none) →
   codeAny (model P w) callerA (.call (.ref fa) ⟨[.ref a],[]⟩) (fun r s'=>r=.ok (.ret (.bool true))∧OldK s₁.heap s'.heap∧s'.os=s₁.os∧AllBare s'.gens) s₁:=by
  intro H hO hS hok hA hK
  have base_of:∀ {b:Addr} {o:Obj},s₁.heap.get? b=some o→H b=none→(hidT s₁.heap H).get? b=some o:=fun e n=>hidT_get e n
  have noA:∀ {b:Addr} {o:Obj} {es:Array DictEntry} {ep:Nat},s₁.heap.get? b=some o→o.data=.dict es ep→H b=none:=fun {b o es ep} e d=>by
   cases q:H b with
   | none=>rfl
   | some u=>
    have e':b=a:=hA b (by rw [q];simp)
    subst e'
    rw [ha] at e;cases e
    have d':Data.seq vs.toArray _=Data.dict es ep:=d
    cases d'
  have nsK:∀ {b:Addr} {m:Str→Option Value},s₁.heap.Ns b m→(hidT s₁.heap H).Ns b m:=fun {b m} ⟨o,es,ep,e,d,r⟩=>⟨o,es,ep,base_of e (noA e d),d,r⟩
  have hKb:K.In (hidT s₁.heap H):=fun b o e=>base_of (KX b o e) (by
   cases q:H b with
   | none=>rfl
   | some u=>
    have e':b=a:=hA b (by rw [q];simp)
    subst e'
    rw [hK (by rw [q];simp)] at e;cases e)
  have hM:Mod K mg (hidT s₁.heap H):=⟨hKb,nsK hns,⟨mb,nsK hb,hbb⟩,let ⟨mc,h1,h2⟩:=hlim;⟨mc,nsK h1,h2⟩⟩
  have e0:Env0 P w K mg (hidT s₁.heap H) callerA [] s₁ H:=⟨rfl,hM,fun b o e=>of_hidT e,Nat.le_of_eq (hidT_size _ _),trivial,fun b hb=>absurd (show b∈([]:List Addr) from hb) (by simp),hok,.of_eq hg⟩
  refine codeAny_mono ((F _ hKb (nsK hns)).run callerA [] s₁ H ⟨[.ref a],[]⟩ [.ref a] [.ref a] _ _ hr e0 (hbind s₁ (.ref a)) (.cons rfl .nil) (hsp H hO hS)) fun r s' h=>?_
  cases r with
  | error e=>exact (hCX H e s' h).elim
  | ok fl=>
   cases fl with
   | next=>exact False.elim h
   | brk=>exact False.elim h
   | cont=>exact False.elim h
   | ret u=>
    obtain ⟨v,H',os,bare,un,hok',r',q⟩:=h
    have q':v=.bl true:=q
    subst q'
    obtain rfl:u=Value.bool true:=r'
    refine ⟨rfl,OldK.of_keep fun b o e=>?_,os,bare⟩
    cases q:H b with
    | none=>exact un.keep b o e q (by intro z;exact absurd (show b∈([]:List Addr) from z) (by simp)) (by simp)
    | some u=>
     rcases hO b with z | ⟨ob,xs,z⟩
     ·rw [q] at z;cases z
     ·have z2:=un.frzs b ob _ z
      obtain ⟨e1,_⟩:=hok b _ z
      obtain ⟨e2,_⟩:=hok' b _ z2
      rw [e] at e1;cases e1
      exact e2
 cases hk:K.lookup a with
 | some o=>
  -- the script is one of the module's own objects
  have e:=KX a o hk
  rw [ha] at e
  cases e
  refine core (fun _=>none) (fun _=>.inl rfl) (.inr ⟨_,vs.toArray,_,hk,rfl,rfl,rfl,by rw [List.size_toArray,lenV];exact hl,by simpa using rv⟩) (fun b u z=>by have z':(none:Option HO)=some u:=z;cases z') (fun b z=>absurd rfl z) fun z=>absurd rfl z
 | none=>
  refine core (fun b=>if b=a then some (.frz { cls:=.type "list",data:=.seq vs.toArray } (.lst (ns.map V.int))) else none) (fun b=>?_) (.inl (.inr ⟨{ cls:=.type "list",data:=.seq vs.toArray },if_pos rfl⟩)) (fun b u z=>?_) (fun b z=>?_) fun _=>hk
  ·by_cases hb:b=a
   ·exact .inr ⟨_,_,if_pos hb⟩
   ·exact .inl (if_neg hb)
  ·by_cases hb:b=a
   ·have z':=(if_pos hb).symm.trans z
    cases z'
    subst hb
    exact ⟨ha,by rw [List.length_map];exact hl,vs,_,rv,ha⟩
   ·have z':=(if_neg hb).symm.trans z
    cases z'
  ·by_cases hb:b=a
   ·exact hb
   ·exact absurd (if_neg hb) z
end L2
namespace L2
open PySem PySem.Spec PyProof.Rows
theorem walk_of {l:PySem.W.OpenLaw} {n k:Nat} {q:Program} {loose:List Str} {XP:(Str→Option Value)→Heap→Prop} {YP:World→Heap→Prop} {d:DefRec} {K:Params→PySem.W.Frag} {CX:World→CXT} {sp:World→Sp} {x:Str}
  (hn:l.most=some n) (hn2:n≤sizeLine) (hdf:d.params.defaults=[]) (hr:Room k callerA)
  (hY:∀ (w:World) (h:Heap),YP w h→(K w.params).In h)
  (F:∀ (w:World) (mg:Str→Option Value) (fa:Addr) (h:Heap),(K w.params).In h→h.Ns mainGlobals mg→mg d.name=some (.ref fa) →
   ∃ fd:FuncData,(∀ (s:Shared) (u:Value),BindsTo s fd ⟨[u],[]⟩ [(x,u)]) ∧
    ∀ base:Heap,(K w.params).In base→base.Ns mainGlobals mg→FnOk l.prog w (K w.params) mg base (CX w) k fa fd [x] (sp w))
  (hsp:∀ (w:World) (H:Hp) (a:Addr) (ns:List Int),ns.length≤n→Only H→SqL (K w.params) H a (ns.map V.int)→sp w [.ref a] H (fun v _=>v=.bl true) fun _ _ _=>False)
  (hCX:∀ (w:World) (H:Hp) (s:Shared) (e:Value) (s':Shared),CX w [] H s (fun _ _ _=>False) e s'→False) :
  PySem.W.WalkO q loose XP YP l.row.toRowW d [] (fun f vs=>PySem.call f vs):=by
 refine Att.attach_call hn hdf fun w s₀ s₁ mg mb fa o pm cd doc a vs ns G Y ho hd hcd hmg hobj hints hlen hg=>?_
 have KX:=hY w _ Y
 obtain ⟨fd,hb,hF⟩:=F w mg fa _ KX G.T.g hmg
 exact law_call KX G.T.g G.T.b G.T.builtins G.T.nolimit hg hobj hints (Nat.le_trans hlen hn2) hr hF hb (fun H hO hS=>hsp w H a ns hlen hO hS) fun H e s'=>hCX w H s₁ e s'
end L2
namespace L2
open PySem PySem.Spec PyProof.Rows
def defArgs (s:Stmt):Arguments:=match s with
 | .FunctionDef _ a _ _ _ _ _ _ _ _=>a
 | _=>{ posonlyargs:=[],args:=[],vararg:=none,kwonlyargs:=[],kw_defaults:=[],kwarg:=none,defaults:=[] }
def defBody (s:Stmt):List Stmt:=match s with
 | .FunctionDef _ _ b _ _ _ _ _ _ _=>b
 | _=>[]
def defScope (s:Stmt):Scope:=match s with
 | .FunctionDef _ _ _ _ _ _ sc _ _ _=>sc
 | _=>{ kind:=.function,names:=[],isGenerator:=false,isCoroutine:=false }
abbrev CX0:CXT:=fun _ _ _ _ _ _=>False
abbrev E0:XK:=fun _ _ _=>False
theorem pass0 {X:Cx}:Passes CX0 X E0:=fun _ _ _ _ _ _ _ h=>h.elim
structure Fun (K:PySem.W.Frag) (x qual:Str) (st:Stmt) (f:Addr) (fd:FuncData):Prop where
 ex:∃ (oc:Value) (od:Option Addr) (kV doc pm:Value) (an:Option Addr) (cdv ct:Value) (osl:Array (Option Value)),
  fd=PySem.W.fnOf x qual (defArgs st) (defBody st) (defScope st) .none kV doc pm an cdv ct∧K.lookup f=some ⟨oc,od,.func fd,osl⟩∧PySem.W.codeIn K cdv qual=true
 kp:PySem.W.keepIn K (.ref f)=true
section
variable {P:Program} {w:World} {K:PySem.W.Frag} {mg:Str→Option Value} {base:Heap}
theorem Fun.ok {x qual:Str} {st:Stmt} {f:Addr} {fd:FuncData} {N ps:List Str} {k:Nat} {sp:Sp} (F:Fun K x qual st f fd) (S:FnScope N ps (defScope st)) (len:∀ vs H Q E,sp vs H Q E→vs.length=ps.length)
  (hbody:∀ (cdv:Value) (A:Around) (outer:List Env) (s:Shared) (H:Hp) (vs:List V) (Q:VK) (E:XK),Room k (A.deeper (envOfC qual (defScope st) s.heap.objs.size f cdv))→sp vs H Q E →
   ∃ t,PSs (cxOf CX0 P w K mg base N qual (defScope st) f cdv A outer s H E).nox (defBody st) t∧t { nx:=fun _ H'=>Q .non H',rt:=Q } (start N vs) H):FnOk P w K mg base CX0 (k + 1) f fd ps sp:=by
 obtain ⟨oc,od,kV,doc,pm,an,cdv,ct,osl,rfl,lk,hcd⟩:=F.ex
 refine fn_of lk hcd S len fun A outer s H vs Q E hr hsp=>?_
 obtain ⟨t,h,q⟩:=hbody cdv A outer s H vs Q E hr hsp
 exact ⟨t,h.nox,q⟩
theorem Fun.binds {x qual:Str} {st:Stmt} {f:Addr} {fd:FuncData} {ps:List Str} (F:Fun K x qual st f fd)
  (h:∀ (kV doc pm:Value) (an:Option Addr) (cdv ct:Value) (us:List Value),us.length=ps.length→bindArgs (PySem.W.fnOf x qual (defArgs st) (defBody st) (defScope st) .none kV doc pm an cdv ct) ⟨us,[]⟩=pure (ps.zip us)):Binds K fd ps []:=by
 obtain ⟨oc,od,kV,doc,pm,an,cdv,ct,osl,rfl,lk,hcd⟩:=F.ex
 exact .all (h kV doc pm an cdv ct)
theorem fun_mk {x qual:Str} {st:Stmt} {f:Addr} {oc:Value} {od an:Option Addr} {osl:Array (Option Value)} {kV doc pm cdv ct:Value} (l:K.lookup f=some ⟨oc,od,.func (PySem.W.fnOf x qual (defArgs st) (defBody st) (defScope st) .none kV doc pm an cdv ct),osl⟩)
  (c:PySem.W.codeIn K cdv qual=true) (k:PySem.W.keepIn K (.ref f)=true):Fun K x qual st f (PySem.W.fnOf x qual (defArgs st) (defBody st) (defScope st) .none kV doc pm an cdv ct):=⟨⟨oc,od,kV,doc,pm,an,cdv,ct,osl,rfl,l,c⟩,k⟩
end
section
variable {X:Cx}
theorem pv (i:Nat) {x:Str} {pos:Pos} (hN:X.N[i]?=some x:=by rfl) (hv:Vis X.env.scope x:=by first | exact Or.inl rfl | exact Or.inr (Or.inl rfl) | exact Or.inr (Or.inr rfl)) (hd:(x == ("__debug__":Str))=false:=by decide)
  (hcd:(x == ("__classdict__":Str))=false:=by decide):PE X (.Name x pos) (tVar i):=pe_var hN hv hd hcd
theorem call_lenD:CallR X (.builtin "len") (fun xs H Q=>∃ a kvs,xs=[V.ref a]∧H a=some (.dK kvs)∧Q (.int kvs.length) H):=by
 intro pins s σ H xs us Q I r h
 obtain ⟨a,kvs,rfl,ha,q⟩:=h
 obtain ⟨u,rfl,ru⟩:=vals1 r
 cases ru
 exact d_len I (.inl ha) fun t s' I'=>⟨.int kvs.length,H,I',⟨t,rfl⟩,q⟩
end
def Same (H H':Hp):Prop:=∀ b o,H b=some o→H' b=some o
theorem Same.refl (H:Hp):Same H H:=fun _ _ h=>h
theorem Same.trans {H H1 H2:Hp} (a:Same H H1) (b:Same H1 H2):Same H H2:=fun c o h=>b c o (a c o h)
theorem Same.free {H H':Hp} (e:Same H H') {l:Addr} (h:H' l=Option.none):H l=Option.none:=by
 cases q:H l with
 | none=>rfl
 | some o=>
  rw [e l o q] at h
  cases h
theorem Same.seq {K:PySem.W.Frag} {H H':Hp} {a:Addr} {xs:List V} (e:Same H H') (h:SqL K H a xs):SqL K H' a xs:=by
 rcases h with (h | ⟨o,h⟩) | h
 ·exact .inl (.inl (e _ _ h))
 ·exact .inl (.inr ⟨o,e _ _ h⟩)
 ·exact .inr h
section
variable {κ:Type} [DecidableEq κ]
theorem valV_not {kvs:List (κ × V)} {k:κ} (h:valV kvs k=none):¬ k∈kvs.map (·.1):=by
 intro m
 obtain ⟨p,hp,e⟩:=List.mem_map.mp m
 have q:(kvs.any fun kv=>decide (kv.1=k))=true:=List.any_eq_true.mpr ⟨p,hp,decide_eq_true e⟩
 rw [valV_any,h] at q
 exact absurd q (by simp)
end
end L2
set_option Elab.async false
set_option linter.all false
set_option maxRecDepth 100000
namespace PySem
open Sem (wp)
open Builtin Builtin.Str Builtin.Int
namespace F
theorem owner_rvs:Manifest.owners.lookup "reversed" = some Manifest.sig_reversed:=by kernel_rfl
theorem slot_rvs_next:Slot "reversed" "__next__" "reversed.__next__":=
 .of (owner:="reversed") (n:="__next__") (by rw [typeLookup_type,builtinLookup_eq_fast];kernel_rfl) (by decide +kernel) (by decide +kernel) (by decide +kernel)
  (by first | exact .inl (by decide +kernel) | exact .inr (by decide +kernel)) (by rw [isSubtype_type];kernel_rfl)
theorem entry_rvs_next:entryFor table "reversed.__next__" = some Builtin.«reversed.__next__»:=entryFor_of_tree (by kernel_rfl)
theorem slot_rvs_iter:Slot "reversed" "__iter__" "reversed.__iter__":=
 .of (owner:="reversed") (n:="__iter__") (by rw [typeLookup_type,builtinLookup_eq_fast];kernel_rfl) (by decide +kernel) (by decide +kernel) (by decide +kernel)
  (by first | exact .inl (by decide +kernel) | exact .inr (by decide +kernel)) (by rw [isSubtype_type];kernel_rfl)
theorem nolen_rvs:typeLookup (.type "reversed") "__len__" = pure none:=by rw [typeLookup_type,builtinLookup_eq_fast];kernel_rfl
theorem hint_rvs:typeLookup (.type "reversed") "__length_hint__" = pure (some (.builtin "reversed.__length_hint__")):=by rw [typeLookup_type,builtinLookup_eq_fast];kernel_rfl
theorem args_rvs_next_1 (a:Value):argsOk "reversed.__next__" ⟨[a],[]⟩:=by
 unfold argsOk;rw [signature?_of (id:="reversed.__next__") (n:=['_','_','t','x','e','n','_','_']) (o:=['d','e','s','r','e','v','e','r']) (by kernel_rfl) owner_rvs];kernel_rfl
theorem args_rvs_iter_1 (a:Value):argsOk "reversed.__iter__" ⟨[a],[]⟩:=by
 unfold argsOk;rw [signature?_of (id:="reversed.__iter__") (n:=['_','_','r','e','t','i','_','_']) (o:=['d','e','s','r','e','v','e','r']) (by kernel_rfl) owner_rvs];kernel_rfl
theorem entry_rvs_iter:entryFor table "reversed.__iter__" = some Builtin.«dict_keyiterator.__iter__»:=
 entryFor_alias (id':="dict_keyiterator.__iter__") (by kernel_rfl) (by first | rfl | decide +kernel | (unfold String.splitOn;simp +decide [String.splitOnAux])) (by decide +kernel) (by kernel_rfl)
theorem slot_rvs_hint:Slot "reversed" "__length_hint__" "reversed.__length_hint__":=
 .of (owner:="reversed") (n:="__length_hint__") (by rw [typeLookup_type,builtinLookup_eq_fast];kernel_rfl) (by decide +kernel) (by decide +kernel) (by decide +kernel)
  (by first | exact .inl (by decide +kernel) | exact .inr (by decide +kernel)) (by rw [isSubtype_type];kernel_rfl)
theorem entry_rvs_hint:entryFor table "reversed.__length_hint__" = some Builtin.«reversed.__length_hint__»:=entryFor_of_tree (by kernel_rfl)
theorem args_rvs_hint_1 (a:Value):argsOk "reversed.__length_hint__" ⟨[a],[]⟩:=by
 unfold argsOk;rw [signature?_of (id:="reversed.__length_hint__") (n:=['_','_','t','n','i','h','_','h','t','g','n','e','l','_','_']) (o:=['d','e','s','r','e','v','e','r']) (by kernel_rfl) owner_rvs];kernel_rfl
end F
section
variable {prog:Program} {w:World} {A:Around} {E:Value→Shared→Prop} {s:Shared}
def rvsObj (x:Str) (t:Tok) (i:Int):Obj:={ cls:=.type "reversed",data:=.fields #[.str x t,rawInt i] }
def Heap.IsRvs (h:Heap) (a:Addr) (x:Str) (t:Tok) (i:Int):Prop:=∃ o,h.get? a=some o∧o.cls=.type "reversed"∧o.data=.fields #[.str x t,rawInt i]
theorem Heap.IsRvs.typeIs {a:Addr} {x:Str} {t:Tok} {i:Int} (y:s.heap.IsRvs a x t i):s.TypeIs (.ref a) "reversed":=let ⟨o,ho,hc,_⟩:=y;⟨o,ho,hc⟩
theorem Heap.IsRvs.at {h h':Heap} {a:Addr} {x:Str} {t:Tok} {i:Int} (y:h.IsRvs a x t i) (e:∀ o,h.get? a=some o→h'.get? a=some o):h'.IsRvs a x t i:=let ⟨o,ho,r⟩:=y;⟨o,e _ ho,r⟩
theorem wpAny_pyNext_rvs_item {it:Addr} {x:Str} {t:Tok} {i c:Nat} {Q:Option Value→Shared→Prop} (hit:s.heap.IsRvs it x t (i:Int)) (hx:x.cps[i]?=some c) (hsz:i < 2 ^ 63)
  (hQ:∀ h' tk tk',h'.IsRvs it x t ((i:Int) - 1)→Heap.SameBut it s.heap h'→Q (some (.str ⟨#[c]⟩ tk)) { s with heap:=h',toks:=tk' }):wpAny (model prog w) A (pyNext (.ref it)) Q E s:=by
 obtain ⟨o,ho,hc,hd⟩:=id hit
 have hlen:i < x.length:=(Array.getElem?_eq_some_iff.mp hx).1
 unfold pyNext
 refine wpAny_bind (wpAny_attempt (wpAny_callSpecial?_slot (name:=Str.ofString "__next__") hit.typeIs F.slot_rvs_next
  (wpAny_call_entry F.slot_rvs_next hit.typeIs F.entry_rvs_next ?_ (F.args_rvs_next_1 _))))
 unfold Builtin.«reversed.__next__»
 refine wpAny_bind (wpAny_of_eq (a:=(Value.ref it,[])) rfl ?_)
 try dsimp only
 refine wpAny_bind (wpAny_field ho hd (x:=.str x t) rfl ?_)
 refine wpAny_bind (wpAny_field ho hd (x:=rawInt (i:Int)) rfl ?_)
 show wpAny _ _ (if (i:Int) < 0 then _ else _) _ _ s
 rw [if_neg (by omega)]
 refine wpAny_bind (wpAny_specialOf (typeIs_str s x t) F.slot_str_getitem.lookup ?_)
 try dsimp only
 first
 | rw [if_neg (show ¬ ((some (Value.builtin "str.__getitem__")).isNone=true) from Bool.false_ne_true)]
 | skip
 refine wpAny_bind (wpAny_mkInt ?_)
 refine wpAny_bind (wpAny_attempt ?_)
 have hb:(seqIndex? (i:Int) x.length).bind (x.cps[·]?)=some c:=by
  have e:seqIndex? (i:Int) x.length=some i:=by
   have hn:¬ ((i:Int) < 0):=by omega
   unfold seqIndex?
   simp [hn,hlen]
  rw [e]
  exact hx
 refine P.getItem_str (c:=c) (by simp;omega) hb ?_
 dsimp only
 refine wpAny_bind (wpAny_field ho hd (x:=rawInt (i:Int)) rfl ?_)
 show wpAny _ _ (setField (Value.ref it) 1 (rawInt ((i:Int) - 1)) >>= fun _=>ret (Value.str ⟨#[c]⟩ _)) _ _ _
 refine wpAny_bind (wpAny_setField ho hd (by simp) ?_)
 refine wpAny_pure ⟨_,rfl,wpAny_pure (hQ _ _ _ ?_ (Heap.SameBut.update ..))⟩
 exact ⟨_,Heap.get?_update_self _ ho (Obj.isFreed_of_fields (Obj.data_mapFields hd _)),(Obj.cls_mapFields ..).trans hc,by
  rw [Obj.data_mapFields hd];simp⟩
theorem wpAny_pyNext_rvs_end {it:Addr} {x:Str} {t:Tok} {Q:Option Value→Shared→Prop} (hh:A.handled=none) (hit:s.heap.IsRvs it x t (-1))
  (hQ:∀ h',Heap.ExtBut it s.heap h'→Q none { s with heap:=h' }):wpAny (model prog w) A (pyNext (.ref it)) Q E s:=by
 obtain ⟨o,ho,hc,hd⟩:=id hit
 unfold pyNext
 refine wpAny_bind (wpAny_attempt (wpAny_callSpecial?_slot (name:=Str.ofString "__next__") hit.typeIs F.slot_rvs_next
  (wpAny_call_entry F.slot_rvs_next hit.typeIs F.entry_rvs_next ?_ (F.args_rvs_next_1 _))))
 unfold Builtin.«reversed.__next__»
 refine wpAny_bind (wpAny_of_eq (a:=(Value.ref it,[])) rfl ?_)
 try dsimp only
 refine wpAny_bind (wpAny_field ho hd (x:=.str x t) rfl ?_)
 refine wpAny_bind (wpAny_field ho hd (x:=rawInt (-1)) rfl ?_)
 show wpAny _ _ (if (-1:Int) < 0 then _ else _) _ _ s
 rw [if_pos (by decide)]
 refine wpAny_bind (wpAny_rule ?_)
 show wpAny _ _ ((setField (Value.ref it) 1 (rawInt (-1)) >>= fun _=>setField (Value.ref it) 0 .none) >>= _) _ _ _
 refine wpAny_bind (wpAny_bind (wpAny_setField ho hd (by simp) ?_))
 have ho1:=Heap.get?_update_self (Obj.mapFields (·.setIfInBounds 1 (rawInt (-1)))) ho (Obj.isFreed_of_fields (Obj.data_mapFields hd _))
 refine wpAny_setField ho1 (Obj.data_mapFields hd _) (by simp) ?_
 dsimp only
 show wpAny _ _ (SmallTypes.stopIteration >>= _) _ _ _
 refine wpAny_bind ?_
 unfold SmallTypes.stopIteration
 first
 | show wpAny _ _ (newExc (.type "StopIteration") [] >>= _) _ _ _
 | (refine wpAny_bind ?_;show wpAny _ _ (newExc (.type "StopIteration") [] >>= _) _ _ _)
 refine wpAny_bind ?_
 simp only [newExc,newTuple]
 refine wpAny_bind (wpAny_newObj_type ?_ (by size_fits))
 refine wpAny_bind (m:=firstArgMember _ _) (wpAny_of_eq (a:=Value.none) (by first | rfl | (simp only [firstArgMember];rfl)) ?_)
 refine wpAny_newObj_type ?_ (by size_fits)
 simp only [raiseNew]
 refine wpAny_bind (wpAny_handled ?_)
 first | rw [show A.in1.handled=none from hh] | rw [hh]
 refine wpAny_bind (wpAny_pure (wpAny_throw ?_))
 refine wpAny_bind (wpAny_isInstance (T:="StopIteration") (b:=true) ⟨_,Heap.get?_push_size _ rfl,rfl⟩ isSubtype_stop ?_)
 refine wpAny_pure (hQ _ ?_)
 intro b ob hb eb
 exact Heap.get?_push_of_some _ (Heap.get?_push_of_some _ ((Heap.get?_update_other _ _ (Ne.symm hb)).trans ((Heap.get?_update_other _ _ (Ne.symm hb)).trans eb)))
theorem wpAny_pyIter_rvs {it:Addr} {x:Str} {t:Tok} {i:Int} {Q:Value→Shared→Prop} (hit:s.heap.IsRvs it x t i) (h:Q (.ref it) s):wpAny (model prog w) A (pyIter (.ref it)) Q E s:=by
 refine wpAny_pyIter_slot hit.typeIs F.slot_rvs_iter (wpAny_call_entry F.slot_rvs_iter hit.typeIs F.entry_rvs_iter ?_ (F.args_rvs_iter_1 _))
 show wpAny _ _ (ret (.ref it)) _ _ s
 exact wpAny_pure ⟨_,rfl,"reversed",_,hit.typeIs,F.slot_rvs_next.lookup,h⟩
theorem hint_rvs {it:Addr} {x:Str} {t:Tok} {i:Int} {Q:Value→Shared→Prop} (hit:s.heap.IsRvs it x t i) (hi:i < x.length) (hz:x.length≤sizeLine)
  (h:∀ u tk,s.toks≤tk→Q (.int (i + 1) u) { s with toks:=tk }):wpAny (model prog w) A (call (.builtin "reversed.__length_hint__") [.ref it]) Q E s:=by
 obtain ⟨o,ho,hc,hd⟩:=id hit
 refine wpAny_call_entry F.slot_rvs_hint hit.typeIs F.entry_rvs_hint ?_ (F.args_rvs_hint_1 _)
 unfold Builtin.«reversed.__length_hint__»
 refine wpAny_bind (wpAny_of_eq (a:=Value.ref it) rfl ?_)
 refine wpAny_bind (wpAny_field ho hd (x:=.str x t) rfl ?_)
 show wpAny _ _ (if (Value.str x t == Value.none)=true then _ else _) _ _ s
 rw [if_neg (show ¬ ((Value.str x t == Value.none)=true) from fun z=>by cases (eq_of_beq z))]
 have hs:sizeLine=16777216:=sizeLine_eq
 refine wpAny_bind (P.len_str (by omega) ?_)
 refine wpAny_bind (m:=asInt? _) (wpAny_pure ?_)
 dsimp only
 refine wpAny_bind (wpAny_field ho hd (x:=rawInt i) rfl ?_)
 show wpAny _ _ (if (x.length:Int) < i + 1 then _ else _) _ _ _
 rw [if_neg (by omega)]
 show wpAny _ _ (mkInt (i + 1) >>= fun v=>ret v) _ _ _
 exact wpAny_bind (wpAny_mkInt (wpAny_pure ⟨_,rfl,h _ _ (by simp;omega)⟩))
theorem Walks.rvs {A:Around} (hh:A.handled=none) (I:Addr) (x:Str) (t:Tok) (hz:x.length≤sizeLine) :
  Walks prog w A I [I] [I] x.length (fun i v=>∃ c tk,x.cps[x.length - 1 - i]?=some c∧v=.str ⟨#[c]⟩ tk) (fun i h=>i≤x.length∧h.IsRvs I x t ((x.length:Int) - 1 - (i:Int))) where
 sub:=fun b hb=>hb
 frame:=fun _ _ _ y hk=>⟨y.1,y.2.at fun o e=>hk I (by simp) o e⟩
 item:=fun i s Q E hi y hQ=>by
  have e:(x.length:Int) - 1 - (i:Int)=((x.length - 1 - i:Nat):Int):=by omega
  have hit:=y.2
  rw [e] at hit
  have hb:x.length - 1 - i < x.cps.size:=by have:x.length=x.cps.size:=rfl;omega
  have hx:x.cps[x.length - 1 - i]?=some (x.cps[x.length - 1 - i]'hb):=Array.getElem?_eq_getElem hb
  have hs:sizeLine=16777216:=sizeLine_eq
  refine wpAny_pyNext_rvs_item hit hx (by omega) fun h' tk tk' hit' hs'=>?_
  have e2:((x.length - 1 - i:Nat):Int) - 1=(x.length:Int) - 1 - ((i + 1:Nat):Int):=by omega
  rw [e2] at hit'
  exact hQ _ h' tk' ⟨_,tk,hx,rfl⟩ ⟨hi,hit'⟩ fun b o hb eo=>hs'.extBut b o (fun h=>hb (by simp [h])) eo
 done:=fun s Q E y hQ=>by
  have e:(x.length:Int) - 1 - (x.length:Int) = -1:=by omega
  have hit:=y.2
  rw [e] at hit
  exact wpAny_pyNext_rvs_end hh hit fun h' he'=>hQ h' s.toks fun b o hb eo=>he' b o (fun h=>hb (by simp [h])) eo
 self:=fun _ _ _ _ y hQ=>wpAny_pyIter_rvs y.2 hQ
theorem wpAny_collect_rvs {I:Addr} {x:Str} {t:Tok} {Q:List Value→Shared→Prop} (hh:A.handled=none) (hit:s.heap.IsRvs I x t ((x.length:Int) - 1)) (hz:x.length≤sizeLine)
  (hQ:∀ s' acc,Moved [I] (fun a b=>b=a) s s'→ItemsOf (fun i v=>∃ c tk,x.cps[x.length - 1 - i]?=some c∧v=.str ⟨#[c]⟩ tk) acc x.length→Q acc.toList s'):wpAny (model prog w) A (collect (.ref I)) Q E s:=by
 have W:=(Walks.rvs (prog:=prog) (w:=w) (A:=A.in1) hh I x t hz).toS
 have hn:x.length≤sizeLine:=hz
 have hst:(fun i (s:Shared)=>i≤x.length∧s.heap.IsRvs I x t ((x.length:Int) - 1 - (i:Int))) 0 s:=⟨Nat.zero_le _,by simpa using hit⟩
 have hT:∀ i (s:Shared),(i≤x.length∧s.heap.IsRvs I x t ((x.length:Int) - 1 - (i:Int)))→s.TypeIs (.ref I) "reversed":=fun i s y=>y.2.typeIs
 have hlt:I < s.heap.objs.size:=by obtain ⟨o,ho,_⟩:=hit;exact Heap.lt_size ho
 have hSI:s.heap.objs.size≠I:=fun e=>Nat.lt_irrefl _ (e ▸ hlt)
 have hSf:s.heap.objs.size ∉ [I]:=fun hm=>hSI (List.mem_singleton.mp hm)
 unfold collect
 refine wpAny_bind (wpAny_runValue (codeAny_builtin F.entry_proto_collect ?_))
 rw [Around.under_plainId F.plain_proto_collect _]
 show wpAny _ A.in1 (newList [] >>= fun l=>again (.builtin "list.__iadd__" ⟨[l,.ref I],[]⟩)) _ _ s
 refine wpAny_bind (wpAny_newObj_type ?_)
 refine wpAny_pure ⟨plainId_quiet F.plain_list_iadd _,codeAny_builtin F.entry_list_iadd ?_⟩
 rw [Around.under_plainId F.plain_list_iadd _]
 have hst₁:=W.frame 0 s (s.heap.push { cls:=.type "list",data:=.seq ([]:List Value).toArray }) s.toks hst (Nat.le_refl _) fun b _ o e=>Heap.get?_push_of_some _ e
 have hS₁:(s.heap.push { cls:=.type "list",data:=.seq ([]:List Value).toArray }).get? s.heap.objs.size=some { cls:=.type "list",data:=.seq ([]:List Value).toArray }:=Heap.get?_push_size _ rfl
 have h1:Builtin.List.listSameRef (.ref s.heap.objs.size) (.ref I)=false:=by simp [Builtin.List.listSameRef,hSI]
 show wpAny _ A.in1 (Builtin.List.listExtendWith (.ref s.heap.objs.size) (.ref I) (.ref s.heap.objs.size)) _ _ _
 unfold Builtin.List.listExtendWith
 refine wpAny_bind (wpAny_typeOf (hT 0 _ hst₁) ?_)
 rw [if_neg (by rw [h1];decide)]
 refine wpAny_bind (W.self 0 _ _ _ hst₁ ?_)
 refine wpAny_bind (wpAny_holding ?_)
 unfold Builtin.List.listLengthHint
 refine wpAny_bind (wpAny_specialOf (hT 0 _ hst₁) F.nolen_rvs ?_)
 show wpAny _ A.in1 (specialOf (Value.ref I) (Str.ofString "__length_hint__") >>= _) _ _ _
 refine wpAny_bind (wpAny_specialOf (hT 0 _ hst₁) F.hint_rvs ?_)
 (generalize hid:("reversed.__length_hint__":String)=id0;(fail_if_success (clear hid id0));wp_delta;rw [show splitId id0=some ("reversed","__length_hint__") from by subst hid;decide +kernel];subst hid)
 refine wpAny_bind (wpAny_isInstance (b:=true) (hT 0 _ hst₁) (by rw [isSubtype_type];kernel_rfl) ?_)
 rw [if_neg (show ¬ ((!true)=true) by decide)]
 dsimp only
 split
 ·rename_i hsil
  exact absurd hsil (by decide +kernel)
 refine wpAny_bind (wpAny_rule ?_)
 refine wpAny_bind (wpAny_of_eq (F.slot_rvs_hint.bind _) ?_)
 dsimp only
 refine wpAny_bind (wpAny_attempt ?_)
 refine hint_rvs (i:=(x.length:Int) - 1 - ((0:Nat):Int)) hst₁.2 (by omega) hz fun u tk htk=>?_
 dsimp only
 have hs:sizeLine=16777216:=sizeLine_eq
 have hk:Builtin.List.listTooLong (Int.toNat ((x.length:Int) - 1 - ((0:Nat):Int) + 1))=false:=by
  unfold Builtin.List.listTooLong
  have e:Int.toNat ((x.length:Int) - 1 - ((0:Nat):Int) + 1)=x.length:=by omega
  rw [e]
  simpa using hz
 refine wpAny_bind (m:=asInt? (.int _ u)) (wpAny_pure ?_)
 dsimp only
 have hfit:Builtin.List.listFitsIndex ((x.length:Int) - 1 - ((0:Nat):Int) + 1)=true:=by
  unfold Builtin.List.listFitsIndex
  simp
  omega
 rw [if_neg (by rw [hfit];decide),if_neg (by omega),if_neg (by rw [hk];decide)]
 refine wpAny_pure ?_
 -- the loop,from a list that may have been touched
 have fin:∀ (h₂:Heap) (c:Nat),(∀ b o,b≠s.heap.objs.size→(s.heap.push { cls:=.type "list",data:=.seq ([]:List Value).toArray }).get? b=some o→h₂.get? b=some o) →
   h₂.get? s.heap.objs.size=some { cls:=.type "list",data:=.seq ([]:List Value).toArray c } →
   codeAny (model prog w) A (.builtin "list.extend.loop" ⟨[.ref s.heap.objs.size,.ref I,.ref s.heap.objs.size],[]⟩) (fun r s'=>match r with
    | .ok (.ret v)=>wpAny (model prog w) A (match v with
     | .ref a=>do
      let __do_lift ← load a
      match __do_lift.data with
       | .seq xs _=>pure xs.toList
       | _=>unsupported "internal:collect"
     | _=>unsupported "internal:collect") Q E s'
    | .ok _=>False
    | .error e=>E e s') { s with heap:=h₂,toks:=tk }:=fun h₂ c keep hS₂=>by
  have hst₂:(fun i (s:Shared)=>i≤x.length∧s.heap.IsRvs I x t ((x.length:Int) - 1 - (i:Int))) 0 { s with heap:=h₂,toks:=tk }:=⟨Nat.zero_le _,hst₁.2.at fun o e=>keep I o (Ne.symm hSI) e⟩
  refine codeAny_extend_loopS W hn _ hSf _ x.length 0 _ _ _ rfl (Nat.zero_le _) hst₂ hS₂ (ItemsOf.nil _) fun s' acc' c' hm hS' hacc=>?_
  show wpAny _ A (load s.heap.objs.size >>= _) _ _ s'
  refine wpAny_bind (wpAny_load hS' ?_)
  refine wpAny_pure (hQ s' acc' ?_ hacc)
  exact ⟨fun b ob hb e=>hm.heap b ob (fun hm'=>by
    rcases List.mem_cons.mp hm' with e1 | hm'
    ·exact absurd (e1 ▸ Heap.lt_size e) (Nat.lt_irrefl _)
    ·exact hb hm') (keep b ob (fun e1=>absurd (e1 ▸ Heap.lt_size e) (Nat.lt_irrefl _)) (Heap.get?_push_of_some _ e)),hm.gens,hm.drawn,hm.os,Nat.le_trans htk hm.toks⟩
 have quiet:=plainId_quiet F.plain_extend_loop (⟨[.ref s.heap.objs.size,.ref I,.ref s.heap.objs.size],[]⟩:Args)
 split
 ·refine wpAny_bind (wpAny_rule ?_)
  show wpAny _ A.in1 ((updateSeq s.heap.objs.size (·.push .none) >>= fun _=>updateSeq s.heap.objs.size (·.pop)) >>= _) _ _ _
  refine wpAny_bind (wpAny_bind (wpAny_updateSeq hS₁ rfl ?_ (by simp) (by simp)))
  have q1:=PySem.IsL.update (h:=s.heap.push { cls:=.type "list",data:=.seq ([]:List Value).toArray }) (l:=s.heap.objs.size) (items:=([]:List Value).toArray) (n:=0) hS₁ (·.push .none)
  refine wpAny_updateSeq q1 rfl ?_ (by simp;omega) (by simp)
  have q2:=PySem.IsL.update q1 (·.pop)
  exact wpAny_pure ⟨quiet,fin _ _ (fun b o hb e=>(Heap.get?_update_other _ _ (Ne.symm hb)).trans ((Heap.get?_update_other _ _ (Ne.symm hb)).trans e)) (show _=some ({ cls:=.type "list",data:=.seq ([]:List Value).toArray _ }:Obj) from q2)⟩
 ·exact wpAny_pure ⟨quiet,fin _ _ (fun b o hb e=>e) hS₁⟩
theorem join_rvs {I:Addr} {x sep:Str} {t t0:Tok} {Q:Value→Shared→Prop} (hh:A.handled=none) (hit:s.heap.IsRvs I x t ((x.length:Int) - 1)) (hz:x.length≤1000) (hsep:sep.length≤1000)
  (h:∀ (s':Shared) (t':Tok) (k:Nat),(∀ b o,b≠I→s.heap.get? b=some o→s'.heap.get? b=some o)→s'.gens=s.gens→s'.drawn=s.drawn→s'.os=s.os →
   Q (.str (Txt.join sep (x.cps.toList.reverse.map fun c=>(⟨#[c]⟩:Str))) t') { s' with toks:=k }):wpAny (model prog w) A (call (.builtin "str.join") [.str sep t0,.ref I]) Q E s:=by
 have hs:sizeLine=16777216:=sizeLine_eq
 refine wpAny_call (codeAny_call_builtin F.slot_str_join.plain F.entry_str_join (F.slot_str_join.check _ _ _ _ _ _ _ _ (typeIs_str _ _ _) (F.args_str_join_2 _ _) ?_))
 rw [join_tree_other]
 refine wpAny_bind (wpAny_typeOf hit.typeIs ?_)
 show wpAny _ A.in1 ((pyIter (.ref I)).tryCatch _ >>= fun it=>collect it >>= fun items=>joinTail sep items) _ _ s
 refine wpAny_bind (wpAny_tryCatch (wpAny_pyIter_rvs hit ?_))
 refine wpAny_bind (wpAny_collect_rvs hh hit (by omega) fun s' acc hm hacc=>?_)
 obtain ⟨l,hl⟩:=exists_strValues acc.toList fun v hv=>by
  obtain ⟨j,hj,rfl⟩:=Array.mem_iff_getElem.mp (Array.mem_toList_iff.mp hv)
  obtain ⟨c,tk,_,e⟩:=hacc.2 j _ (Array.getElem?_eq_getElem hj)
  exact ⟨_,_,e⟩
 have hlx:l.map (·.1)=x.cps.toList.reverse.map fun c=>(⟨#[c]⟩:Str):=by
  have el:l.length=x.length:=by
   have q:=congrArg List.length hl
   simp [strValues] at q
   rw [q];exact hacc.1
  refine List.ext_getElem (by simp [el];rfl) fun j h1 h2=>?_
  simp only [List.getElem_map,List.getElem_reverse]
  have hj:j < l.length:=by simpa using h1
  have ha:acc.toList[j]?=some (Value.str (l[j]).1 (l[j]).2):=by
   rw [← hl]
   simp [strValues,hj]
  have ha':acc[j]?=some (Value.str (l[j]).1 (l[j]).2):=by simpa using ha
  obtain ⟨c,tk,hc,e⟩:=hacc.2 j _ ha'
  injection e with e1 _
  rw [e1]
  have hb:x.length - 1 - j < x.cps.size:=by have:x.length=x.cps.size:=rfl;omega
  rw [Array.getElem?_eq_getElem hb] at hc
  have hc':=Option.some.inj hc
  rw [← hc']
  simp only [Array.length_toList,Array.getElem_toList]
  rfl
 rw [← hl]
 have hok:JoinOk sep (l.map (·.1))=true:=by
  unfold JoinOk
  rw [StrLaws.joinTotal]
  have e1:((l.map (·.1)).map (·.length)).sum=x.length:=by
   rw [hlx,List.map_map]
   have:((fun y:Str=>y.length) ∘ fun c=>(⟨#[c]⟩:Str))=fun _=>1:=by funext c;rfl
   rw [this,List.map_const',List.sum_replicate_nat]
   simp
   rfl
  have e2:(l.map (·.1)).length=x.length:=by rw [hlx];simp;rfl
  rw [e1,e2]
  have:x.length * sep.length≤1000 * 1000:=Nat.mul_le_mul hz hsep
  unfold tooLong
  rw [decide_eq_false (by omega)]
  rfl
 have hpost:=fun t' k=>h s' t' k (fun b o hb e=>hm.heap b o (fun z=>hb (List.mem_singleton.mp z)) e) hm.gens hm.drawn hm.os
 unfold JoinOk at hok
 rw [Bool.not_eq_true'] at hok
 have g:Gives (joinTail sep (strValues l)) (joinMade sep l):=by
  have g0:=gives_joinTail sep l hok
  cases l with
  | nil=>exact g0
  | cons p r=>cases r with
   | nil=>exact g0
   | cons q r'=>exact g0
 rw [← hlx] at hpost
 exact g prog w A (wants Q E) s' (post_join l ⟨joinFit_length hok,hpost⟩)
end
namespace F
theorem rvs_slot_init:Slot "reversed" "__init__" "object.__init__":=
 .of (owner:="object") (n:="__init__") (by rw [typeLookup_type,builtinLookup_eq_fast];kernel_rfl) (by decide +kernel) (by decide +kernel) (by decide +kernel)
  (by first | exact .inl (by decide +kernel) | exact .inr (by decide +kernel)) (by rw [isSubtype_type];kernel_rfl)
theorem rvs_mro:mroOf (.type "reversed")=pure [.type "reversed",.type "object"]:=by rw [mroOf_type];kernel_rfl
theorem rvs_lookup_new:typeLookup (.type "reversed") "__new__" = pure (some (.builtin "reversed.__new__")):=by rw [typeLookup_type,builtinLookup_eq_fast];kernel_rfl
theorem rvs_called:TypeCalled "reversed" "reversed.__new__" "object.__init__":=
 ⟨by decide +kernel,by decide +kernel,⟨_,_,rvs_mro⟩,madeBy_type rvs_mro rvs_lookup_new (by decide +kernel),by decide +kernel,by rw [isSubtype_type];kernel_rfl,rvs_slot_init⟩
theorem rvs_typeCall_1 (a:Value):checkTypeCall "reversed" ⟨[a],[]⟩=pure ():=by kernel_rfl
theorem rvs_newCall_1 (a:Value):checkBuiltinCall "reversed.__new__" ⟨[.type "reversed",a],[]⟩=pure ():=by kernel_rfl
theorem rvs_entry_new:entryFor table "reversed.__new__" = some Builtin.«reversed.__new__»:=entryFor_of_tree (by kernel_rfl)
theorem rvs_sub:isSubtype (.type "reversed") (.type "reversed")=pure true:=by rw [isSubtype_type];kernel_rfl
theorem rvs_nostr:typeLookup (.type "str") "__reversed__" = pure none:=by rw [typeLookup_type,builtinLookup_eq_fast];kernel_rfl
end F
section
variable {prog:Program} {w:World} {A:Around} {E:Value→Shared→Prop} {s:Shared}
theorem rvs_newClass (a:Value):Builtin.SmallTypes.newClass "reversed" ⟨[.type "reversed",a],[]⟩=pure (.type "reversed",[a]):=by
 unfold Builtin.SmallTypes.newClass
 simp only [isType,F.rvs_sub,pure_bind,Bool.not_true,Bool.false_eq_true,if_false]
theorem meets_rvs_new (x:Str) (t:Tok) (hz:x.length≤sizeLine):Meets (Builtin.«reversed.__new__» ⟨[.type "reversed",.str x t],[]⟩)
  (fun _ R s=>R (.ok (.ret (.ref s.heap.objs.size))) { s with heap:=s.heap.push (rvsObj x t ((x.length:Int) - 1)),toks:=s.toks + 1 + 1 }):=
 .of_wp fun prog w A R s h=>by
  have hs:sizeLine=16777216:=sizeLine_eq
  unfold Builtin.«reversed.__new__»
  refine wpAny_bind (wpAny_of_eq (rvs_newClass _) ?_)
  try dsimp only
  refine wpAny_bind (wpAny_of_eq (a:=()) (by first | rfl | kernel_rfl) ?_)
  refine wpAny_bind (wpAny_of_eq (a:=()) (by first | rfl | kernel_rfl) ?_)
  try dsimp only
  refine wpAny_bind (wpAny_specialOf (typeIs_str s x t) F.rvs_nostr ?_)
  try dsimp only
  refine wpAny_bind ?_
  refine wpAny_bind (wpAny_isInstance (T:="str") (b:=false) (typeIs_str s x t) (by rw [isSubtype_type];kernel_rfl) ?_)
  rw [if_neg (by decide)]
  refine wpAny_bind (wpAny_specialOf (typeIs_str s x t) F.slot_str_getitem.lookup ?_)
  dsimp only
  split
  ·refine wpAny_pure ?_
   rw [if_neg (by decide)]
   refine wpAny_bind (P.len_str (by omega) ?_)
   refine wpAny_bind (m:=asInt? _) (wpAny_pure ?_)
   dsimp only
   show wpAny _ _ (newObj (.type "reversed") (.fields #[.str x t,rawInt ((x.length:Int) - 1)]) >>= fun v=>ret v) _ _ _
   exact wpAny_bind (wpAny_newObj_type (wpAny_pure ⟨_,rfl,h⟩))
  ·rename_i hn
   exact absurd (by decide +kernel) hn
theorem call_reversed_str {x:Str} {t:Tok} {Q:Value→Shared→Prop} (hz:x.length≤sizeLine)
  (h:Q (.ref s.heap.objs.size) { s with heap:=s.heap.push (rvsObj x t ((x.length:Int) - 1)),toks:=s.toks + 1 + 1 }):wpAny (model prog w) A (call (.type "reversed") [.str x t]) Q E s:=
 callType_new F.rvs_called (by decide) (F.rvs_typeCall_1 _) (F.rvs_newCall_1 _) (fun obj=>F.args_object_init_2 obj _) F.rvs_entry_new (meets_rvs_new x t hz) ⟨⟨_,Heap.get?_push_size _ rfl,rfl⟩,h⟩
end
end PySem
set_option Elab.async false
set_option linter.all false
set_option maxRecDepth 100000
namespace L2
open PySem PySem.Spec PyProof.Rows
def capOf (env:Env):List (Str × NameKind)→List (Str × Addr)→List (Str × Addr)
 | [],acc=>acc
 | (n,k) :: r,acc=>if k == .free then capOf env r ((n,(env.cells.lookup n).getD 0) :: acc) else capOf env r acc
theorem closure_cap {env:Env}:∀ (ns:List (Str × NameKind)) (acc:List (Str × Addr)),(∀ x∈ns,x.2=.free→∃ c,env.cells.lookup x.1=some c) →
  (forIn ns acc fun (x:Str × NameKind) (cs:List (Str × Addr))=>(if x.2 == .free then do
    let c ← cellOf env x.1
    pure (ForInStep.yield ((x.1,c) :: cs))
   else pure (ForInStep.yield cs):Sem (ForInStep (List (Str × Addr)))))=pure (capOf env ns acc)
 | [],acc,_=>rfl
 | (n,k) :: r,acc,h=>by
  have ih:=fun a=>closure_cap (env:=env) r a fun x hx=>h x (List.mem_cons_of_mem _ hx)
  rw [List.forIn_cons]
  by_cases hk:k=.free
  ·subst hk
   obtain ⟨c,hc⟩:=h (n,.free) List.mem_cons_self rfl
   have hc':env.cells.lookup n=some c:=hc
   have e1:cellOf env n=pure c:=by unfold cellOf;rw [hc']
   simp only [capOf,hc',Option.getD_some]
   show ((do let c ← cellOf env n;pure (ForInStep.yield ((n,c) :: acc))) >>= _)=_
   rw [e1,pure_bind,pure_bind]
   exact ih _
  ·have e2:(k == NameKind.free)=false:=by simpa using hk
   simp only [capOf,e2,Bool.false_eq_true,if_false]
   rw [pure_bind]
   exact ih _
theorem closureFor_cap {env:Env} {scope:Scope} (h:∀ x∈scope.names,x.2=.free→∃ c,env.cells.lookup x.1=some c) :
  closureFor scope env=pure (capOf env scope.names []):=by
 unfold closureFor
 have e:=closure_cap (env:=env) scope.names [] h
 have e2:(forIn scope.names ([]:List (Str × Addr)) fun x cs=>(match x with
   | (name,kind)=>if kind == .free then do
     let c ← cellOf env name
     pure (ForInStep.yield ((name,c) :: cs))
    else pure (ForInStep.yield cs):Sem (ForInStep (List (Str × Addr)))))=pure (capOf env scope.names []):=e
 simp only [] at e2 ⊢
 first
  | (rw [e2];rfl)
  | (erw [e2];rfl)
theorem cap_lookup {env:Env}:∀ {ns:List (Str × NameKind)} {acc:List (Str × Addr)} {x:Str} {c:Addr},(∀ y∈ns,y.2=.free→∃ c,env.cells.lookup y.1=some c) →
  (∀ y c,acc.lookup y=some c→env.cells.lookup y=some c)→(capOf env ns acc).lookup x=some c→env.cells.lookup x=some c
 | [],_,_,_,_,ha,e=>ha _ _ e
 | (n,k) :: r,acc,x,c,h,ha,e=>by
  have hr:∀ y∈r,y.2=.free→∃ c,env.cells.lookup y.1=some c:=fun y hy=>h y (List.mem_cons_of_mem _ hy)
  unfold capOf at e
  by_cases hk:k=.free
  ·subst hk
   rw [if_pos (by simp)] at e
   obtain ⟨c',hc⟩:=h (n,.free) List.mem_cons_self rfl
   have hc':env.cells.lookup n=some c':=hc
   refine cap_lookup hr (fun y d z=>?_) e
   rw [hc',Option.getD_some,List.lookup_cons] at z
   by_cases q:y=n
   ·subst q
    simp at z
    subst z
    exact hc'
   ·have q':(y == n)=false:=by simpa using q
    rw [q'] at z
    exact ha y d z
  ·rw [if_neg (by simpa using hk)] at e
   exact cap_lookup hr ha e
theorem cap_has {env:Env}:∀ {ns:List (Str × NameKind)} {acc:List (Str × Addr)} {x:Str},((∃ c,acc.lookup x=some c)∨(x,NameKind.free)∈ns)→∃ c,(capOf env ns acc).lookup x=some c
 | [],_,_,h=>by
  rcases h with h | h
  ·exact h
  ·exact nomatch h
 | (n,k) :: r,acc,x,h=>by
  unfold capOf
  by_cases hk:k=.free
  ·subst hk
   rw [if_pos (by simp)]
   refine cap_has ?_
   by_cases q:x=n
   ·subst q
    left
    simp [List.lookup_cons]
   ·have q':(x == n)=false:=by simpa using q
    rcases h with ⟨c,h⟩ | h
    ·exact .inl ⟨c,by rw [List.lookup_cons,q'];exact h⟩
    ·rcases List.mem_cons.mp h with z | z
     ·cases z
      exact absurd rfl q
     ·exact .inr z
  ·rw [if_neg (by simpa using hk)]
   refine cap_has ?_
   rcases h with h | h
   ·exact .inl h
   ·rcases List.mem_cons.mp h with z | z
    ·cases z
     exact absurd rfl hk
    ·exact .inr z
def relabelS (scope osc:Scope):Scope:=
 { scope with names:=scope.names.map fun (n,k)=>if (k == .free && osc.kind == .function && osc.names.lookup n == some .cell) then (n,.cell) else (n,k) }
def compOk (scope osc:Scope):Bool:=
 (scope.kind == .function) && (osc.kind == .function) && scope.names.all fun (n,k)=>(k != .free || !scope.names.contains (n,NameKind.cell)) && (k != .local || scope.names.lookup n == some .local) &&
  (k != .free || osc.names.lookup n == some .cell || osc.names.lookup n == some .free) && (k != .free || (relabelS scope osc).names.lookup n != some .local)
structure CompOk (scope osc:Scope):Prop where
 kind:scope.kind=.function
 sep:∀ x∈scope.names,x.2=.free→(x.1,NameKind.cell) ∉ scope.names
 loc:∀ x∈scope.names,x.2=.local→scope.names.lookup x.1=some .local
 free:∀ x∈scope.names,x.2=.free→osc.names.lookup x.1=some .cell∨osc.names.lookup x.1=some .free
 nl:∀ x∈scope.names,x.2=.free→(relabelS scope osc).names.lookup x.1≠some .local
theorem CompOk.of {scope osc:Scope} (h:compOk scope osc=true):CompOk scope osc:=by
 unfold compOk at h
 rw [Bool.and_eq_true,Bool.and_eq_true,List.all_eq_true] at h
 obtain ⟨⟨h1,h0⟩,h2⟩:=h
 refine ⟨by simpa using h1,fun x hx e=>?_,fun x hx e=>?_,fun x hx e=>?_,fun x hx e=>?_⟩
 all_goals
  obtain ⟨n,k⟩:=x
  have q:=h2 (n,k) hx
  simp only [Bool.and_eq_true,Bool.or_eq_true,bne_iff_ne,beq_iff_eq] at q
 ·have z:=q.1.1.1.resolve_left (fun z=>z e)
  simpa using z
 ·exact q.1.1.2.resolve_left (fun z=>z e)
 ·rcases q.1.2 with (z | z) | z
  ·exact absurd e z
  ·exact .inl z
  ·exact .inr z
 ·exact q.2.resolve_left (fun z=>z e)
theorem lookup_relabel {osc:Scope}:∀ {ns:List (Str × NameKind)} {x:Str} {k':NameKind},
  (ns.map fun (n,k)=>if (k == NameKind.free && osc.kind == .function && osc.names.lookup n == some .cell) then (n,NameKind.cell) else (n,k)).lookup x=some k' →
  (k'=.cell∨k'=.free)→(x,NameKind.free)∈ns∨(x,NameKind.cell)∈ns
 | [],_,_,h,_=>by simp at h
 | (n,k) :: r,x,k',h,hk'=>by
  rw [List.map_cons] at h
  by_cases q:x=n
  ·subst q
   by_cases z:(k == NameKind.free && osc.kind == .function && osc.names.lookup x == some .cell)=true
   ·have:k=.free:=by
     simp only [Bool.and_eq_true,beq_iff_eq] at z
     exact z.1.1
    subst this
    exact .inl List.mem_cons_self
   ·simp only [z,Bool.false_eq_true,if_false] at h
    rw [List.lookup_cons] at h
    simp at h
    subst h
    rcases hk' with e | e
    ·subst e;exact .inr List.mem_cons_self
    ·subst e;exact .inl List.mem_cons_self
  ·have q':(x == n)=false:=by simpa using q
   refine (lookup_relabel (osc:=osc) (k':=k') (ns:=r) (x:=x) ?_ hk').imp (List.mem_cons_of_mem _) (List.mem_cons_of_mem _)
   by_cases z:(k == NameKind.free && osc.kind == .function && osc.names.lookup n == some .cell)=true
   ·simp only [z,if_true] at h
    rw [List.lookup_cons,q'] at h
    exact h
   ·simp only [z,Bool.false_eq_true,if_false] at h
    rw [List.lookup_cons,q'] at h
    exact h
theorem cf_app:∀ (ns:List (Str × NameKind)) (n:Nat) (acc:List (Str × Addr)),cellsFrom n ns acc=cellsFrom n ns [] ++ acc
 | [],_,_=>rfl
 | (x,k) :: r,n,acc=>by
  unfold cellsFrom
  split
  ·rw [cf_app r (n + 1) ((x,n) :: acc),cf_app r (n + 1) [(x,n)],List.append_assoc];rfl
  ·exact cf_app r n acc
theorem cf_mem:∀ {ns:List (Str × NameKind)} {n:Nat} {x:Str} {c:Addr},(x,c)∈cellsFrom n ns []→(x,NameKind.cell)∈ns
 | [],_,_,_,h=>nomatch h
 | (y,k) :: r,n,x,c,h=>by
  unfold cellsFrom at h
  split at h
  ·rename_i hk
   rw [cf_app] at h
   rcases List.mem_append.mp h with h | h
   ·exact List.mem_cons_of_mem _ (cf_mem h)
   ·cases List.mem_singleton.mp h
    have:k=.cell:=by simpa using hk
    subst this
    exact List.mem_cons_self
  ·exact List.mem_cons_of_mem _ (cf_mem h)
theorem cf_has:∀ {ns:List (Str × NameKind)} {n:Nat} {x:Str} {acc:List (Str × Addr)},((x,NameKind.cell)∈ns∨∃ c,acc.lookup x=some c)→∃ c,(cellsFrom n ns acc).lookup x=some c
 | [],_,_,_,h=>h.elim (fun z=>nomatch z) id
 | (y,k) :: r,n,x,acc,h=>by
  unfold cellsFrom
  split
  ·refine cf_has ?_
   by_cases q:x=y
   ·subst q
    exact .inr ⟨n,by simp [List.lookup_cons]⟩
   ·have q':(x == y)=false:=by simpa using q
    rcases h with h | ⟨c,h⟩
    ·rcases List.mem_cons.mp h with z | z
     ·cases z;exact absurd rfl q
     ·exact .inl z
    ·exact .inr ⟨c,by rw [List.lookup_cons,q'];exact h⟩
  ·rename_i hk
   refine cf_has ?_
   rcases h with h | h
   ·rcases List.mem_cons.mp h with z | z
    ·cases z;exact absurd rfl hk
    ·exact .inl z
   ·exact .inr h
def blkCells (env:Env) (scope:Scope) (C:Addr):List (Str × Addr):=cellsFrom (C + 1) scope.names (capOf env scope.names [])
theorem cf_above:∀ {ns:List (Str × NameKind)} {n:Nat} {x:Str} {c:Addr},(x,c)∈cellsFrom n ns []→n≤c
 | [],_,_,_,h=>nomatch h
 | (y,k) :: r,n,x,c,h=>by
  unfold cellsFrom at h
  split at h
  ·rw [cf_app] at h
   rcases List.mem_append.mp h with h | h
   ·exact Nat.le_trans (Nat.le_succ _) (cf_above h)
   ·cases List.mem_singleton.mp h
    exact Nat.le_refl _
  ·exact cf_above h
theorem cf_apart:∀ {ns:List (Str × NameKind)} {n:Nat},(cellsFrom n ns []).Pairwise fun x y=>x.2≠y.2
 | [],_=>List.Pairwise.nil
 | (y,k) :: r,n=>by
  unfold cellsFrom
  split
  ·rw [cf_app]
   refine List.pairwise_append.mpr ⟨cf_apart,by simp,fun a ha b hb e=>?_⟩
   cases List.mem_singleton.mp hb
   have:=cf_above (x:=a.1) (c:=a.2) ha
   rw [e] at this
   exact absurd this (Nat.not_succ_le_self _)
  ·exact cf_apart
theorem blkCells_lookup {env:Env} {scope:Scope} {C:Addr} {x:Str} {c:Addr} (h:(blkCells env scope C).lookup x=some c) :
  ((x,c)∈cellsFrom (C + 1) scope.names []∧C < c∧(x,NameKind.cell)∈scope.names)∨((cellsFrom (C + 1) scope.names []).lookup x=none∧(capOf env scope.names []).lookup x=some c):=by
 unfold blkCells at h
 rw [cf_app,List.lookup_append] at h
 cases q:(cellsFrom (C + 1) scope.names []).lookup x with
 | none=>rw [q] at h;exact .inr ⟨rfl,h⟩
 | some d=>
  rw [q] at h
  cases h
  have:=mem_of_lookup q
  exact .inl ⟨this,cf_above this,cf_mem this⟩
theorem own_none {ns:List (Str × NameKind)} {n:Nat} {x:Str} (h:(x,NameKind.cell) ∉ ns):(cellsFrom n ns []).lookup x=none:=by
 cases q:(cellsFrom n ns []).lookup x with
 | none=>rfl
 | some d=>exact absurd (cf_mem (mem_of_lookup q)) h
section
variable {M:Model} {A:Around} {E:Value→Shared→Prop} {s:Shared}
theorem wpAny_newFunctionEnv_around {scope:Scope} {globals:Addr} {closure:List (Str × Addr)} {qual:Str} {func:Option Addr} {code:Value} {outer:Env} {builtins:Addr} {Q:Env→Shared→Prop}
  (hQ:Q (newEnv scope s.heap.objs.size globals (cellsFrom (s.heap.objs.size + 1) scope.names closure) qual func code (some outer) builtins) { s with heap:=pushCells (s.heap.push { cls:=.type "dict",data:=.dict #[] }) scope.names }) :
  wpAny M A (newFunctionEnv scope globals closure [] qual func code (some outer) builtins) Q E s:=by
 simp only [newFunctionEnv,Option.isSome_some,if_true]
 simp only [newEnv] at hQ
 refine wpAny_bind (wpAny_alloc ?_)
 refine wpAny_bind (wpAny_layCells _ (fun name kind cells=>by cases hkc:kind == NameKind.cell <;> simp [hkc]) _ _ _ _ ?_)
 rw [show ({ s with heap:=s.heap.push { cls:=.type "dict",data:=.dict #[] } }:Shared).heap.objs.size=s.heap.objs.size + 1 from Heap.size_push ..]
 rw [List.forIn_nil]
 exact wpAny_bind (wpAny_pure (wpAny_pure hQ))
end
def Cx.blk (X:Cx) (N':List Str) (s₂:Shared) (H₂:Hp) (scope:Scope) (fp:List Addr) (C:Addr):Cx where
 prog:=X.prog
 w:=X.w
 K:=X.K
 mg:=X.mg
 base:=X.base
 A:=X.A
 N:=N'
 s₀:=s₂
 H₀:=H₂
 env:=compEnvC scope (blkCells X.env scope C) C X.env
 outer:=X.stack
 stack:=X.stack
 ex:=fp
 fn:=fun x=>scope.names.contains (x,NameKind.cell)
 calm:=X.calm
 pn:=[]
 xe:=fun _ _=>False
def blkSt (k:Nat) (js:List Nat) (σ:St):St:=List.replicate k none ++ js.map fun j=>(σ[j]?).join
def blkN (own:List Str) (js:List Nat) (N:List Str):List Str:=own ++ js.map fun j=>N.getD j Str.empty
section
variable {X:Cx}
theorem Inv.capFree {pins:List (Addr × Obj)} {σ:St} {H:Hp} {s:Shared} {scope:Scope} (I:Inv X pins σ H s) (hk:CompOk scope X.env.scope):∀ x∈scope.names,x.2=.free→∃ c,X.env.cells.lookup x.1=some c:=
 fun x hx e=>I.ok.has x.1 (hk.free x hx e)
theorem Inv.capL {pins:List (Addr × Obj)} {σ:St} {H:Hp} {s:Shared} {scope:Scope} {x:Str} {c:Addr} (I:Inv X pins σ H s) (hk:CompOk scope X.env.scope) (e:(capOf X.env scope.names []).lookup x=some c):X.env.cells.lookup x=some c:=
 cap_lookup (I.capFree hk) (fun _ _ z=>by simp at z) e
theorem Inv.blkL {pins:List (Addr × Obj)} {σ:St} {H:Hp} {s:Shared} {scope:Scope} {C:Addr} {x:Str} {c:Addr} (I:Inv X pins σ H s) (hk:CompOk scope X.env.scope) (e:(blkCells X.env scope C).lookup x=some c) :
  ((x,c)∈cellsFrom (C + 1) scope.names []∧C < c∧(x,NameKind.cell)∈scope.names)∨X.env.cells.lookup x=some c:=
 (blkCells_lookup e).imp id fun z=>I.capL hk z.2
theorem blk_ok {pins:List (Addr × Obj)} {σ:St} {H:Hp} {s:Shared} {N':List Str} {scope:Scope} {fp:List Addr} {C:Addr} (I:Inv X pins σ H s) (hk:CompOk scope X.env.scope) (hC:s.heap.objs.size≤C)
  (hf:∀ b∈fp,FpOk X pins H b) (ho:∀ b∈fp,∃ o,s.heap.get? b=some o):(X.blk N' s H scope fp C).Ok where
 mod:=I.ok.mod
 kind:=hk.kind
 glob:=I.ok.glob
 blt:=I.ok.blt
 above:=hC
 inj:=fun x y c e1 e2=>by
  have low:∀ z,X.env.cells.lookup z=some c→c < C:=fun z e=>by
   obtain ⟨v,q⟩:=I.cell z c e
   exact Nat.lt_of_lt_of_le q.lt hC
  rcases I.blkL hk e1 with ⟨a1,a2,_⟩ | a <;> rcases I.blkL hk e2 with ⟨b1,b2,_⟩ | b
  ·exact name_of_addr cf_apart a1 b1
  ·exact absurd (low _ b) (Nat.not_lt.mpr (Nat.le_of_lt a2))
  ·exact absurd (low _ a) (Nat.not_lt.mpr (Nat.le_of_lt b2))
  ·exact I.ok.inj x y c a b
 has:=fun x h=>by
  refine cf_has ?_
  have z:(x,NameKind.free)∈scope.names∨(x,NameKind.cell)∈scope.names:=by
   rcases h with h | h
   ·exact lookup_relabel (osc:=X.env.scope) h (.inl rfl)
   ·exact lookup_relabel (osc:=X.env.scope) h (.inr rfl)
  rcases z with z | z
  ·exact .inr (cap_has (.inr z))
  ·exact .inl z
 cab:=fun x c z e=>by
  have z':(x,NameKind.cell)∈scope.names:=by
   have z2:scope.names.contains (x,NameKind.cell)=true:=z
   simpa using z2
  have e':(blkCells X.env scope C).lookup x=some c:=e
  rcases blkCells_lookup e' with ⟨_,a,_⟩ | ⟨a,_⟩
  ·exact Nat.le_trans hC (Nat.le_of_lt a)
  ·obtain ⟨d,q⟩:=cf_has (n:=C + 1) (acc:=[]) (.inl z')
   rw [a] at q;cases q
 hd:=I.ok.hd
 frames:=I.ok.frames
 stk:=.inl rfl
 exf:=fun b hb=>⟨fun e=>by
  obtain ⟨o,q⟩:=ho b hb
  have e':b=C:=e
  rw [e'] at q
  exact absurd (Heap.lt_size q) (Nat.not_lt.mpr hC),fun x c e=>by
  rcases I.blkL hk e with ⟨_,a,_⟩ | a
  ·obtain ⟨o,q⟩:=ho b hb
   intro z
   rw [z] at a
   exact absurd (Nat.lt_of_lt_of_le (Heap.lt_size q) hC) (Nat.not_lt.mpr (Nat.le_of_lt a))
  ·exact (hf b hb).2.2.2.2.1 x c a⟩
 bs:=I.bs
 bsz:=Nat.le_trans I.ok.bsz I.sz
 noex:=fun b o e hb=>by
  rcases (hf b hb).2.2.2.1 with z | z
  ·exact I.ok.noex b o e z
  ·exact absurd (Heap.lt_size (I.ok.bs b o e).1) (Nat.not_lt.mpr z)
 exfs:=fun b hb hs=>by
  rcases List.mem_cons.mp (I.stkSub b hs) with z | z
  ·exact (hf b hb).2.1 z
  ·exact (hf b hb).2.2.1 z
 funs:=I.stack
 frf:=I.stkFree
theorem blk_start {pins:List (Addr × Obj)} {σ:St} {H:Hp} {s s1:Shared} {own:List Str} {js:List Nat} {scope:Scope} {fp:List Addr} {C:Addr} {m:Str→Option Value} (I:Inv X pins σ H s) (hk:CompOk scope X.env.scope) (hC:s.heap.objs.size≤C)
  (hf:∀ b∈fp,FpOk X pins H b) (ho:∀ b∈fp,∃ o,s.heap.get? b=some o) (hos:s1.os=s.os) (hg:s1.gens=s.gens) (hn:s1.heap.Ns C m) (keep:∀ b o,s.heap.get? b=some o→s1.heap.get? b=some o)
  (hown:∀ x c,(x,c)∈cellsFrom (C + 1) scope.names []→s1.heap.IsCell c none) (hcap:(js.all fun j=>scope.names.contains (X.N.getD j Str.empty,NameKind.free))=true) :
  Inv (X.blk (blkN own js X.N) s H scope fp C) [] (blkSt own.length js σ) H s1:=by
 have cl:=fun {x:Str} {c:Addr} (e:(capOf X.env scope.names []).lookup x=some c)=>cap_lookup (I.capFree hk) (fun _ _ z=>by simp at z) e
 refine ⟨blk_ok I hk hC hf ho,hos,hg ▸ I.bare,Un.kept keep,⟨m,hn,fun i x v e1 e2 e3=>?_⟩,fun x c e=>?_,I.hok.fresh hC,fun x c e=>(I.blkL hk e).elim (fun z=>I.hok.fresh (Nat.le_trans hC (Nat.le_of_lt z.2.1))) fun z=>I.freeC x c z,fun p hp=>(nomatch hp),I.hok.kept keep,?_⟩
 ·have e1':(own ++ js.map fun j=>X.N.getD j Str.empty)[i]?=some x:=e1
  have e2':(List.replicate own.length none ++ js.map fun j=>(σ[j]?).join)[i]?=some (some v):=e2
  by_cases hi:i < own.length
  ·rw [List.getElem?_append_left (by rw [List.length_replicate];exact hi),List.getElem?_replicate,if_pos hi] at e2'
   cases e2'
  ·have hi':own.length≤i:=Nat.le_of_not_lt hi
   rw [List.getElem?_append_right (by rw [List.length_replicate];exact hi'),List.length_replicate,List.getElem?_map] at e2'
   rw [List.getElem?_append_right hi',List.getElem?_map] at e1'
   cases ej:js[i - own.length]? with
   | none=>rw [ej] at e1';cases e1'
   | some j=>
    rw [ej] at e1' e2'
    have ex:X.N.getD j Str.empty=x:=Option.some.inj e1'
    have ev:(σ[j]?).join=some v:=Option.some.inj e2'
    have hj:σ[j]?=some (some v):=by
     cases q:σ[j]? with
     | none=>rw [q] at ev;cases ev
     | some z=>rw [q] at ev;simp at ev;rw [ev]
    have hjl:j < X.N.length:=by rw [← I.len];exact (List.getElem?_eq_some_iff.mp hj).1
    have hN:X.N[j]?=some x:=by rw [← ex,List.getD_eq_getElem?_getD,List.getElem?_eq_getElem hjl];rfl
    have hx:(x,NameKind.free)∈scope.names:=by
     have q:=List.all_eq_true.mp hcap j (List.mem_of_getElem? ej)
     rw [ex] at q
     simpa using q
    have ko:=hk.free _ hx rfl
    obtain ⟨mo,hno,hl⟩:=I.loc
    obtain ⟨u,ru,lk⟩:=hl j x v hN hj (ko.elim (fun z=>.inr (.inl z)) fun z=>.inr (.inr z))
    refine ⟨u,ru,?_⟩
    rcases lk with ⟨kk,_⟩ | ⟨kk,c,ec,hc⟩
    ·rcases ko with z | z
     ·rw [show X.env.kindOf x=X.env.scope.names.lookup x from rfl,z] at kk;cases kk
     ·rw [show X.env.kindOf x=X.env.scope.names.lookup x from rfl,z] at kk;cases kk
    ·obtain ⟨c',hc'⟩:=cap_has (env:=X.env) (ns:=scope.names) (acc:=[]) (x:=x) (.inr hx)
     have:=cl hc'
     rw [ec] at this
     cases this
     refine .inr ⟨?_,c,?_,hc.keeps keep⟩
     case refine_2=>
      show (blkCells X.env scope C).lookup x=some c
      unfold blkCells
      rw [cf_app,List.lookup_append,own_none (hk.sep _ hx rfl)]
      exact hc'
     -- its kind within the block
     rcases e3 with z | z | z
     ·exact absurd z (hk.nl _ hx rfl)
     ·exact .inl z
     ·exact .inr z
 ·rcases I.blkL hk e with z | z
  ·exact ⟨none,hown x c z.1⟩
  ·obtain ⟨v,z⟩:=I.cell x c z
   exact ⟨v,z.keeps keep⟩
 ·show (List.replicate own.length none ++ js.map fun j=>(σ[j]?).join).length=(own ++ js.map fun j=>X.N.getD j Str.empty).length
  simp
def ifsOf (env:Env) (ifs:List Expr):Sem Bool:=forIn ifs true fun c r=>if r=true then do let ok ← isTrue c env (eval c env);pure (ForInStep.yield ok) else pure (ForInStep.yield r)
theorem compLoop_any {prog:Program} {w:World} {A:Around} {R:Result→Shared→Prop} {s:Shared} {elt target iter:Expr} {ifs:List Expr} {scope:Scope} {pos:Pos} {it acc:Value} {env:Env} (I:Nat→Shared→Prop)
  (turn:∀ n s,I n s→wpAny (model prog w) A (pyNext it) (fun r s₁=>match r with
   | none=>R (.ok .next) s₁
   | some v=>wpAny (model prog w) A (letOwnedTupleGo target it v) (fun _ s₁'=>wpAny (model prog w) A (assign target env v) (fun _ s₂=>
     wpAny (model prog w) A (ifsOf env ifs) (fun ok s₃=>
      if ok=true then wpAny (model prog w) A (eval elt env) (fun x s₄=>
       wpAny (model prog w) A (call (.builtin "list.append") [acc,x]) (fun _ s₅=>∃ m,m < n∧I m s₅) (fun _ _=>False) s₄) (fun _ _=>False) s₃
      else ∃ m,m < n∧I m s₃) (fun _ _=>False) s₂) (fun _ _=>False) s₁') (fun _ _=>False) s₁) (fun _ _=>False) s)
  (n:Nat) (h:I n s) :
  codeAny (model prog w) A (.compLoop (.ListComp elt [⟨target,iter,ifs,0⟩] scope pos) 0 it acc env) R s:=by
 refine codeAny_loop rfl I (fun n s hI=>?_) n h
 show wpAny _ A ((compTurn (.ListComp elt [⟨target,iter,ifs,0⟩] scope pos) 0 it acc env).onRaise (fun x=>do noteFrame x env;theTreesLotGoes x)) _ _ s
 refine wpAny_noted ?_
 rw [compTurn_list]
 have up:∀ {α:Type} {t:Sem α} {Q Q':α→Shared→Prop} {E':Value→Shared→Prop} {s:Shared},wpAny (model prog w) A t Q (fun _ _=>False) s→(∀ a s,Q a s→Q' a s)→wpAny (model prog w) A t Q' E' s:=
  fun h hQ=>wpAny_mono h hQ fun _ _ f=>f.elim
 refine wpAny_bind (wpAny_standAt (wpAny_bind (up (turn n s hI) fun r s₁ h₁=>?_)))
 cases r with
 | none=>exact wpAny_pure h₁
 | some v=>
  refine wpAny_bind (up h₁ fun _ s₁' h₁'=>wpAny_bind (up h₁' fun _ s₂ h₂=>wpAny_bind (up h₂ fun ok s₃ h₃=>?_)))
  cases ok with
  | false=>exact wpAny_pure ⟨rfl,h₃⟩
  | true=>
   exact wpAny_bind (wpAny_bind (up h₃ fun x s₄ h₄=>wpAny_bind (up h₄ fun _ s₅ h₅=>wpAny_pure (wpAny_pure ⟨rfl,h₅⟩))))
def PIf (X:Cx) (ifs:List Expr) (t:TT):Prop:=
 ∀ (pins:List (Addr × Obj)) (s:Shared) (σ:St) (H:Hp) (Q:Bool→Hp→Prop),Inv X pins σ H s→t σ H Q→wpAny (model X.prog X.w) X.A (ifsOf X.env ifs) (TP X pins σ Q) X.xe s
def tNoIf:TT:=fun _ H Q=>Q true H
theorem pif_nil {X:Cx}:PIf X [] tNoIf:=fun pins s σ H Q I h=>wpAny_tests_nil ⟨H,I,h⟩
def CompW (J:It) (g:TG) (ti:TT) (te:TE) (σ:St) (H:Hp) (Q:List V→Hp→Prop):Prop:=
 ∃ W:Nat→Nat→List V→St→Hp→Prop,(∃ m,W 0 m [] σ H)∧∀ i m acc σ' H',W i m acc σ' H' →
  acc.length < sizeLine∧((J.stop i H'∧Q acc H') ∨
   (J.go i H'∧∃ N:List V→St→Hp→Prop,(∀ acc' σ2 H2,N acc' σ2 H2→∃ m',m' < m∧W (i + 1) m' acc' σ2 H2) ∧
    ∀ x H2,J.yld i H' x H2→g x σ' H2 fun σ2 H3=>ti σ2 H3 fun b H4=>if b=true then te σ2 H4 fun v H5=>N (acc ++ [v]) σ2 H5 else N acc σ2 H4))
def tComp (k:Nat) (js:List Nat) (wi:TI) (g:TG) (ti:TT) (te:TE):TE:=fun σ H Q=>wi σ H fun J H1=>CompW J g ti te (blkSt k js σ) H1 fun acc H'=>∀ l,H' l=none→Q (.ref l) (upd H' l (.lst acc))
abbrev lstObj (its:List Value) (n:Nat):Obj:={ cls:=.type "list",data:=.seq its.toArray n }
theorem comp_core {pins:List (Addr × Obj)} {σ:St} {H:Hp} {s:Shared} {elt tg iter:Expr} {ifs:List Expr} {scope:Scope} {pos:Pos} {own:List Str} {js:List Nat} {g:TG} {ti:TT} {te:TE} {J:It} {fp:List Addr} {it:Addr} {tn:Nat→Heap→Prop} {Q:List V→Hp→Prop} {E:Value→Shared→Prop}
  {RR:Value→Addr→Result→Shared→Prop} (hc:X.calm=true) (hk:CompOk scope X.env.scope) (hcap:(js.all fun j=>scope.names.contains (X.N.getD j Str.empty,NameKind.free))=true)
  (hg:∀ s H fp C,PG (X.blk (blkN own js X.N) s H scope fp C) tg g) (hi:∀ s H fp C,PIf (X.blk (blkN own js X.N) s H scope fp C) ifs ti) (he:∀ s H fp C,PE (X.blk (blkN own js X.N) s H scope fp C) elt te)
  (I:Inv X pins σ H s) (T:Turn X.prog X.w X.K tg J fp it tn) (st:tn 0 s.heap) (hf:∀ b∈fp,FpOk X pins H b)
  (hW:CompW J g ti te (blkSt own.length js σ) H Q)
  (hRR:∀ (D C:Addr) (s':Shared) (H':Hp) (acc:List V) (m:Str→Option Value),Q acc H'→H' D=none→Inv X pins σ (upd H' D (.lst acc)) s'→s'.heap.Ns C m→upd H' D (.lst acc) C=none→C≠X.env.locals→X.s₀.heap.objs.size≤C →
   (∀ x c,X.env.cells.lookup x=some c→c≠C)→(∀ p∈X.pn ++ pins,p.1≠C)→RR (.ref D) C (.ok .next) s') :
  wpAny (model X.prog X.w) X.A (newList []) (fun acc s₃=>wpAny (model X.prog X.w) X.A (newFunctionEnv scope X.env.globals (capOf X.env scope.names []) [] X.env.qual none .none (some X.env)) (fun cenv s₄=>
   codeAny (model X.prog X.w) X.A (.compStart (.ListComp elt [⟨tg,iter,ifs,0⟩] scope pos) 0 (.ref it) acc { cenv with scope:=relabel scope X.env }) (RR acc cenv.locals) s₄) E s₃) E s:=by
 obtain ⟨W,⟨m0,w0⟩,turn⟩:=hW
 refine wpAny_newObj_type (wpAny_newFunctionEnv_around ?_)
 dsimp only
 generalize hH2:s.heap.push { cls:=.type "list",dict:=none,data:=.seq ([]:List Value).toArray } = H2
 generalize hh1:pushCells (H2.push { cls:=.type "dict",data:=.dict #[] }) scope.names=h₁
 have hpk:∀ b o,(H2.push { cls:=.type "dict",data:=.dict #[] }).get? b=some o→h₁.get? b=some o:=fun b o e=>hh1 ▸ pushCells_keeps _ _ b o e
 have hns₁:h₁.Ns H2.objs.size fun _=>none:=by
  have q:(H2.push { cls:=.type "dict",data:=.dict #[] }).Ns H2.objs.size fun _=>none:=Heap.Ns.new ..
  exact q.at' fun o e=>hpk _ o e
 have hown₁:∀ x c,(x,c)∈cellsFrom (H2.objs.size + 1) scope.names []→h₁.IsCell c none:=fun x c e=>by
  have ok:=cellsFrom_ok scope.names (H2.push { cls:=.type "dict",data:=.dict #[] }) (H2.objs.size + 1) [] ⟨fun _ _ hm=>(nomatch hm),List.Pairwise.nil⟩ (by rw [Heap.size_push];exact Nat.le_refl _)
  rw [Heap.size_push,hh1] at ok
  exact (ok.empty x c e).1
 have hC:H2.objs.size=s.heap.objs.size + 1:=by rw [← hH2,Heap.size_push]
 have hDC:s.heap.objs.size≠H2.objs.size:=by rw [hC];exact Nat.ne_of_lt (Nat.lt_succ_self _)
 have hCle:s.heap.objs.size≤H2.objs.size:=by rw [hC];exact Nat.le_succ _
 have below:∀ b,b < s.heap.objs.size→b≠H2.objs.size∧b≠s.heap.objs.size:=fun b hb=>⟨by rw [hC];exact Nat.ne_of_lt (Nat.lt_succ_of_lt hb),Nat.ne_of_lt hb⟩
 have old:∀ b o,s.heap.get? b=some o→h₁.get? b=some o:=fun b o e=>hpk b o (Heap.get?_push_of_some _ (hH2 ▸ Heap.get?_push_of_some _ e))
 have hacc:h₁.get? s.heap.objs.size=some (lstObj [] 0):=hpk _ _ (Heap.get?_push_of_some _ (hH2 ▸ Heap.get?_push_size _ rfl))
 have hob:∀ b∈fp,∃ o,s.heap.get? b=some o:=fun b hb=>let ⟨o,e,_⟩:=T.obj 0 _ st b hb;⟨o,e⟩
 have st₁:tn 0 h₁:=T.keep 0 _ _ st fun b _ o e=>old b o e
 generalize hXb:X.blk (blkN own js X.N) s H scope fp H2.objs.size=Xb
 have I₁:Inv Xb [] (blkSt own.length js σ) H { s with heap:=h₁ }:=hXb ▸ blk_start I hk hCle hf hob rfl rfl hns₁ old hown₁ hcap
 have eP:Xb.prog=X.prog:=by rw [← hXb];rfl
 have ew:Xb.w=X.w:=by rw [← hXb];rfl
 have eK:Xb.K=X.K:=by rw [← hXb];rfl
 have eA:Xb.A=X.A:=by rw [← hXb];rfl
 have ec:Xb.calm=true:=by rw [← hXb];exact hc
 have eE:Xb.env=compEnvC scope (blkCells X.env scope H2.objs.size) H2.objs.size X.env:=by rw [← hXb];rfl
 have ex:Xb.xe=fun _ _=>False:=by rw [← hXb];rfl
 have es:Xb.s₀=s:=by rw [← hXb];rfl
 have eh:Xb.H₀=H:=by rw [← hXb];rfl
 have ef:Xb.fs=frs X.stack:=by rw [← hXb];rfl
 have exx:Xb.ex=fp:=by rw [← hXb];rfl
 have ep:Xb.pn=[]:=by rw [← hXb];rfl
 have eL:Xb.env.locals=H2.objs.size:=by rw [eE];rfl
 have hD0:H s.heap.objs.size=none:=I.hok.fresh (Nat.le_refl _)
 -- D is no iterator's,no frame's
 have hDf:∀ b∈fp,b≠s.heap.objs.size:=fun b hb e=>by
  obtain ⟨o,q⟩:=hob b hb
  rw [e] at q
  exact absurd (Heap.lt_size q) (Nat.lt_irrefl _)
 have hDs:s.heap.objs.size ∉ Xb.fs:=fun z=>by
  rw [ef] at z
  rcases List.mem_cons.mp (I.stkSub _ z) with q | q
  ·exact absurd I.lt (by rw [← q];exact Nat.lt_irrefl _)
  ·exact I.nofs (Nat.le_refl _) q
 have hDcell:∀ x c,Xb.env.cells.lookup x=some c→c≠s.heap.objs.size:=fun x c e q=>by
  rcases I.blkL hk (C:=H2.objs.size) (x:=x) (c:=c) (by rw [eE] at e;exact e) with ⟨_,z,_⟩ | z
  ·rw [q] at z
   exact absurd hCle (Nat.not_le.mpr z)
  ·obtain ⟨v,o,ho,_⟩:=I.cell x c z
   rw [q] at ho
   exact absurd (Heap.lt_size ho) (Nat.lt_irrefl _)
 have stat:∀ {pl:List (Addr × Obj)} {H':Hp},(∀ b∈fp,H' b=none)→(∀ p∈pl,p.1=s.heap.objs.size)→∀ b∈fp,FpOk Xb pl H' b:=fun hn hp b hb=>by
  refine ⟨hn b hb,?_,?_,.inl (by rw [exx];exact hb),fun x c e=>?_,fun p hpp=>?_⟩
  ·rw [eL];exact (below b (let ⟨o,q⟩:=hob b hb;Heap.lt_size q)).1
  ·rw [ef];intro z
   rcases List.mem_cons.mp (I.stkSub b z) with q | q
   ·exact (hf b hb).2.1 q
   ·exact (hf b hb).2.2.1 q
  ·rcases I.blkL hk (C:=H2.objs.size) (x:=x) (c:=c) (by rw [eE] at e;exact e) with ⟨_,z,_⟩ | z
   ·intro q
    rw [q] at z
    obtain ⟨o,q2⟩:=hob b hb
    exact absurd (Nat.lt_of_lt_of_le (Heap.lt_size q2) hCle) (Nat.not_lt.mpr (Nat.le_of_lt z))
   ·exact (hf b hb).2.2.2.2.1 x c z
  ·rw [ep,List.nil_append] at hpp
   rw [hp p hpp]
   exact (hDf b hb).symm
 have loop:∀ s₃:Shared,s₃={ s with heap:=h₁ } →
   codeAny (model X.prog X.w) X.A (.compLoop (.ListComp elt [⟨tg,iter,ifs,0⟩] scope pos) 0 (.ref it) (.ref s.heap.objs.size) (compEnvC scope (blkCells X.env scope H2.objs.size) H2.objs.size X.env))
    (RR (.ref s.heap.objs.size) H2.objs.size) s₃:=by
  rintro s₃ rfl
  refine compLoop_any (fun n s'=>∃ (i:Nat) (acc:List V) (its:List Value) (k:Nat) (σ':St) (H':Hp),Inv Xb [] σ' H' s'∧tn i s'.heap∧(∀ b∈fp,H' b=none)∧H' s.heap.objs.size=none∧s'.heap.get? s.heap.objs.size=some (lstObj its k)∧Vals acc its∧W i n acc σ' H')
   ?_ m0 ⟨0,[],[],0,_,H,I₁,st₁,fun b hb=>(hf b hb).1,hD0,hacc,.nil,w0⟩
  rintro n s' ⟨i,acc,its,k,σ',H',I',st',fr',hD',oD',rv',w'⟩
  obtain ⟨hlen,tt⟩:=turn i n acc σ' H' w'
  -- the gathered list,pinned
  have Ip:Inv Xb [(s.heap.objs.size,lstObj its k)] σ' H' s':=I'.pins_of fun p hp=>by
   have e:p=(s.heap.objs.size,lstObj its k):=by simpa using hp
   subst e
   exact ⟨oD',hD',by rw [eL];exact hDC,hDs,fun v z=>by cases z⟩
  have hpl:∀ p∈[(s.heap.objs.size,lstObj its k)],p.1=s.heap.objs.size:=fun p hp=>by
   have e:p=(s.heap.objs.size,lstObj its k):=by simpa using hp
   rw [e]
  rcases tt with ⟨stop,q⟩ | ⟨go,N,hN,step⟩
  ·have d:=T.done Xb eP ew eK ec i _ s' σ' H' (fun _ _=>False) Ip (stat fr' hpl) st' stop
   rw [eA] at d
   refine wpAny_mono d (fun r s1 hr=>?_) fun _ _ z=>z
   obtain ⟨rfl,I1⟩:=hr
   have oD1:s1.heap.get? s.heap.objs.size=some (lstObj its k):=(I1.pin _ (List.mem_append_right _ (List.mem_singleton.mpr rfl))).1
   obtain ⟨mC,hnC,_⟩:=I1.loc
   rw [eL] at hnC
   obtain ⟨oC,_,_,hoC,_⟩:=id hnC
   have hCH:H' H2.objs.size=none:=by have:=I1.free;rwa [eL] at this
   have ub:Un (frs X.stack) fp H H' s.heap s1.heap:=by have:=I1.base;rwa [ef,exx,eh,es] at this
   refine hRR _ _ s1 H' acc mC q hD' ?_ hnC ?_ ?_ ?_ ?_ ?_
   ·-- back outside
    refine I.call' (ch:=fp) (by have:=I1.os;rwa [es] at this) ⟨fun b o e n1 h1 h2=>ub.keep b o e n1 h1 h2,fun b o e n1 h1 h2=>ub.slot b o e n1 h1 h2,fun b o e n1 h1=>?_,ub.there,fun b xs e=>?_,fun b o u e=>?_,fun b ps e=>?_⟩ ?_ (by have:=I1.bare;exact this) fun b hb=>?_
    ·rw [upd_ne (fun z=>by rw [z] at e;exact absurd (Heap.lt_size e) (Nat.lt_irrefl _))]
     exact ub.free b o e n1 h1
    ·rw [upd_ne (ne_of_none (ub.tups b xs e) hD')]
     exact ub.tups b xs e
    ·rw [upd_ne (ne_of_none (ub.frzs b o u e) hD')]
     exact ub.frzs b o u e
    ·obtain ⟨more,z⟩:=ub.tbls b ps e
     exact ⟨more,by rw [upd_ne (ne_of_none z hD')];exact z⟩
    ·intro b u e
     have hokb:=I1.hok
     rw [eP,ew] at hokb
     by_cases hb:b=s.heap.objs.size
     ·subst hb
      rw [upd_same] at e
      cases e
      exact ⟨Nat.le_of_lt hlen,its,k,rv',oD1⟩
     ·rw [upd_ne hb] at e
      refine (hokb b u e).stay (fun c v _ z=>z) (fun c z=>?_) fun c xs z=>?_
      ·rw [upd_ne (ne_of_none z hD')];exact z
      ·rw [upd_ne (ne_of_none z hD')];exact z
    ·exact ⟨(hf b hb).2.2.2.1,(hf b hb).2.1,(hf b hb).2.2.2.2.1,(hf b hb).2.2.2.2.2⟩
   ·rw [upd_ne hDC.symm];exact hCH
   ·intro z;have:=I.lt;rw [← z] at this;exact absurd this (Nat.not_lt.mpr hCle)
   ·exact Nat.le_trans I.sz hCle
   ·intro x c e z
    obtain ⟨v,o,ho,_⟩:=I.cell x c e
    rw [z] at ho
    exact absurd (Heap.lt_size ho) (Nat.not_lt.mpr hCle)
   ·intro p hp z
    have:=(I.pin p hp).1
    rw [z] at this
    exact absurd (Heap.lt_size this) (Nat.not_lt.mpr hCle)
  ·have d:=T.item Xb eP ew eK ec i _ s' σ' H' (fun _ _=>False) Ip (stat fr' hpl) st' go
   rw [eA] at d
   refine wpAny_mono d (fun r s1 hr=>?_) fun _ _ z=>z
   obtain ⟨u,rfl,d2⟩:=hr
   refine wpAny_mono d2 (fun _ s2 hr2=>?_) fun _ _ z=>z
   obtain ⟨x,H2',I2,r2,y2,st2,fr2⟩:=hr2
   have I2':=I2.pinned (stat fr2 hpl) (T.obj _ _ st2)
   have G:=hXb ▸ hg s H fp H2.objs.size
   have d3:=G _ s2 σ' H2' x u _ I2' r2 (step x H2' y2)
   rw [eP,ew,eA,ex,eE] at d3
   refine wpAny_mono d3 (fun _ s3 hr3=>?_) fun _ _ z=>z
   obtain ⟨σ3,H3,I3,q3⟩:=hr3
   have Gi:=hXb ▸ hi s H fp H2.objs.size
   have d4:=Gi _ s3 σ3 H3 _ I3 q3
   rw [eP,ew,eA,ex,eE] at d4
   refine wpAny_mono d4 (fun b s4 hr4=>?_) fun _ _ z=>z
   obtain ⟨H4,I4,q4⟩:=hr4
   have again:∀ {s5:Shared} {H5:Hp} {σ5:St},Inv Xb ([(s.heap.objs.size,lstObj its k)] ++ pinsAt fp s2.heap) σ5 H5 s5→s5.heap.get? s.heap.objs.size=some (lstObj its k)∧H5 s.heap.objs.size=none∧tn (i + 1) s5.heap∧∀ b∈fp,H5 b=none:=fun {s5 H5 σ5} I5=>by
    have pD:=I5.pin (s.heap.objs.size,lstObj its k) (List.mem_append_right _ (List.mem_append_left _ (List.mem_singleton.mpr rfl)))
    refine ⟨pD.1,pD.2.1,T.keep _ _ _ st2 fun b hb o e=>(I5.pin (b,o) (List.mem_append_right _ (List.mem_append_right _ (mem_pinsAt hb e)))).1,fun b hb=>?_⟩
    obtain ⟨o,e,_⟩:=T.obj _ _ st2 b hb
    exact (I5.pin (b,o) (List.mem_append_right _ (List.mem_append_right _ (mem_pinsAt hb e)))).2.1
   have bare:∀ {s5:Shared} {H5:Hp} {σ5:St} {pl:List (Addr × Obj)},Inv Xb pl σ5 H5 s5→Inv Xb [] σ5 H5 s5:=fun I5=>I5.pins_of fun p hp=>nomatch hp
   cases b with
   | false=>
    obtain ⟨m',hm,w5⟩:=hN _ _ _ q4
    obtain ⟨a1,a2,a3,a4⟩:=again I4
    exact ⟨m',hm,i + 1,acc,its,k,σ3,H4,bare I4,a3,a4,a2,a1,rv',w5⟩
   | true=>
    have Ge:=hXb ▸ he s H fp H2.objs.size
    have d5:=Ge _ s4 σ3 H4 _ I4 q4
    rw [eP,ew,eA,ex,eE] at d5
    refine wpAny_mono d5 (fun y s5 hr5=>?_) fun _ _ z=>z
    obtain ⟨v,H5,I5,r5,q5⟩:=hr5
    obtain ⟨m',hm,w5⟩:=hN _ _ _ q5
    obtain ⟨a1,a2,a3,a4⟩:=again I5
    have hl:=rv'.length
    refine call_meets F.slot_list_append ⟨_,a1,rfl⟩ F.entry_list_append (F.args_list_append_2 _ _) (PySem.list_append s.heap.objs.size its.toArray k y (by rw [List.size_toArray];omega)) ⟨a1,?_⟩
    have qu:=PySem.IsL.update a1 (fun x_1=>x_1.push y)
    have qe:(its.toArray.push y)=(its ++ [y]).toArray:=by simp
    rw [qe] at qu
    have I6:Inv Xb [] σ3 H5 { s5 with heap:=s5.heap.update s.heap.objs.size (Obj.mapSeq fun x_1=>x_1.push y),toks:=s5.toks }:=
     (bare I5).turned (fun b o hb e=>(Heap.get?_update_other s5.heap _ (Ne.symm hb)).trans e) a2 (by rw [eL];exact hDC) (.inr (by rw [es];exact Nat.le_refl _)) hDcell (by rw [ep];intro p hp;exact nomatch hp)
    refine ⟨m',hm,i + 1,acc ++ [v],its ++ [y],_,σ3,H5,I6,T.keep _ _ _ a3 (fun b hb o e=>(Heap.get?_update_other s5.heap _ (hDf b hb).symm).trans e),a4,a2,qu,rv'.append (.cons r5 .nil),w5⟩
 refine codeAny_compStart_list (loop _ rfl) ?_
 exact T.self _ 0 _ _ _ st₁ (loop _ rfl)
theorem pe_comp {elt tg iter:Expr} {ifs:List Expr} {scope:Scope} {pos:Pos} (own:List Str) (js:List Nat) {wi:TI} {g:TG} {ti:TT} {te:TE} (hc:X.calm=true) (hk:CompOk scope X.env.scope)
  (hcap:(js.all fun j=>scope.names.contains (X.N.getD j Str.empty,NameKind.free))=true) (hw:PI X tg iter wi)
  (hg:∀ s H fp C,PG (X.blk (blkN own js X.N) s H scope fp C) tg g) (hi:∀ s H fp C,PIf (X.blk (blkN own js X.N) s H scope fp C) ifs ti) (he:∀ s H fp C,PE (X.blk (blkN own js X.N) s H scope fp C) elt te)
  (hs:∀ x,foldedSetIterable iter X.env x=pure x:=by intro _;rfl):PE X (.ListComp elt [⟨tg,iter,ifs,0⟩] scope pos) (tComp own.length js wi g ti te):=by
 intro pins s σ H Q I h
 rw [eval_ListComp]
 refine wpAny_comprehension_free (use:=none) rfl hs (closureFor_cap (I.capFree hk)) hk.kind hk.loc (thn (hw pins s σ H _ I h) fun v s1 h1=>thn h1 fun itv s2 h2=>?_)
 obtain ⟨it,fp,tn,J,H2,rfl,I2,T,st2,f2,hW⟩:=h2
 refine comp_core (RR:=fun acc C=>compPost (model X.prog X.w) X.A X.xe none (EP X pins σ Q) acc C) (Q:=fun acc H'=>∀ l,H' l=none→Q (.ref l) (upd H' l (.lst acc))) hc hk hcap hg hi he I2 T st2 f2 hW ?_
 intro D C s' H' acc m q hD I' hn hC0 hCL hCs hCc hCp
 refine ⟨m,hn,fun h' sb=>?_⟩
 exact ⟨.ref D,_,I'.turned (t':=s'.toks) (fun b o hb e=>(sb.2 b hb).trans e) hC0 hCL (.inr hCs) hCc hCp,rfl,q D hD⟩
theorem ps_setcomp {i:Nat} {x:Str} {elt tg iter:Expr} {ifs:List Expr} {scope:Scope} {pos spos:Pos} {px:Pos} (own:List Str) (js:List Nat) {wi:TI} {g:TG} {ti:TT} {te:TE} (hN:X.N.Nodup) (hxi:X.N[i]?=some x) (hx:Loc X.env.scope x)
  (hsw:swapsWith (.ListComp elt [⟨tg,iter,ifs,0⟩] scope pos) (some (.Name x px)) spos.line X.env=pure true)
  (hc:X.calm=true) (hk:CompOk scope X.env.scope)
  (hcap:(js.all fun j=>scope.names.contains (X.N.getD j Str.empty,NameKind.free))=true) (hw:PI X tg iter wi)
  (hg:∀ s H fp C,PG (X.blk (blkN own js X.N) s H scope fp C) tg g) (hi:∀ s H fp C,PIf (X.blk (blkN own js X.N) s H scope fp C) ifs ti) (he:∀ s H fp C,PE (X.blk (blkN own js X.N) s H scope fp C) elt te)
  (hs:∀ x,foldedSetIterable iter X.env x=pure x:=by intro _;rfl) (hf:X.fn x=true∨X.env.scope.names.lookup x=some .local:=by first | exact .inl rfl | exact .inr rfl | assumption) :
  PS X (.Assign [.Name x px] (.ListComp elt [⟨tg,iter,ifs,0⟩] scope pos) spos) (tAsg (tComp own.length js wi g ti te) (gName i)):=by
 intro pins s σ H Dn I h
 rw [exec_Assign_Name_used _ _ _ _ hsw]
 refine wpAny_bind (wpAny_standAt (wpAny_bind ?_))
 show wpAny _ _ (do let _ ← comprehension (.ListComp elt [⟨tg,iter,ifs,0⟩] scope pos) scope X.env _ (newList []) false (eval iter X.env) (some (assign (.Name x px) X.env))) _ _ s
 refine wpAny_bind (wpAny_mono (wpAny_comprehension_free (use:=some (assign (.Name x px) X.env)) (Q:=fun _ s'=>SP X pins Dn .next s') (E:=X.xe) rfl hs (closureFor_cap (I.capFree hk)) hk.kind hk.loc ?_) (fun _ s' q=>wpAny_pure (wpAny_pure q)) fun _ _ z=>z)
 refine (thn (hw pins s σ H _ I h) fun v s1 h1=>thn h1 fun itv s2 h2=>?_)
 obtain ⟨it,fp,tn,J,H2,rfl,I2,T,st2,f2,hW⟩:=h2
 refine comp_core (RR:=fun acc C=>compPost (model X.prog X.w) X.A X.xe (some (assign (.Name x px) X.env)) (fun _ s'=>SP X pins Dn .next s') acc C) (Q:=fun acc H'=>∀ l,H' l=none→gName i (.ref l) σ (upd H' l (.lst acc)) Dn.nx) hc hk hcap hg hi he I2 T st2 f2 hW ?_
 intro D C s' H' acc m q hD I' hn hC0 hCL hCs hCc hCp
 show wpAny _ _ (assign (.Name x px) X.env (.ref D)) _ _ s'
 refine wpAny_assign_Name (store_ok2 I' hN hxi hx (v:=.ref D) rfl (fun s'' I'' sb=>?_) hf)
 obtain ⟨a,sb,ha⟩:=sb
 have hCa:C≠a:=by
  rcases ha with z | z
  ·rw [z];exact hCL
  ·exact (hCc x a z).symm
 refine ⟨m,hn.sameBut sb hCa,fun h' sb'=>?_⟩
 exact ⟨_,_,I''.turned (t':=s''.toks) (fun b o hb e=>(sb'.2 b hb).trans e) hC0 hCL (.inr hCs) hCc hCp,q D hD⟩
end
section
variable {K:PySem.W.Frag} {g:TG} {ti:TT} {te:TE} {σ:St} {H:Hp} {Q:List V→Hp→Prop}
theorem comp_by {J:It} {n:Nat} (Pv:Nat→List V→St→Hp→Prop) (h0:Pv 0 [] σ H) (hz:∀ i acc σ H,Pv i acc σ H→acc.length < sizeLine) (hi:∀ i acc σ H,Pv i acc σ H→i≤n)
  (stop:∀ acc σ H,Pv n acc σ H→J.stop n H) (go:∀ i acc σ H,i < n→Pv i acc σ H→J.go i H)
  (hs:∀ i x acc σ H H2,i < n→Pv i acc σ H→J.yld i H x H2→g x σ H2 fun σ2 H3=>ti σ2 H3 fun b H4=>if b=true then te σ2 H4 fun v H5=>Pv (i + 1) (acc ++ [v]) σ2 H5 else Pv (i + 1) acc σ2 H4)
  (he:∀ acc σ H,Pv n acc σ H→Q acc H) :
  CompW J g ti te σ H Q:=by
 refine ⟨fun i m acc σ H=>Pv i acc σ H∧m=n + 1 - i,⟨n + 1,h0,rfl⟩,?_⟩
 rintro i m acc σ' H' ⟨w,rfl⟩
 refine ⟨hz i acc σ' H' w,?_⟩
 have hle:=hi i acc σ' H' w
 rcases Nat.lt_or_ge i n with hlt | hge
 ·refine .inr ⟨go i acc σ' H' hlt w,fun acc' σ2 H2=>Pv (i + 1) acc' σ2 H2,fun acc' σ2 H2 w2=>⟨n + 1 - (i + 1),?_,w2,rfl⟩,fun x H2 y=>hs i x acc σ' H' H2 hlt w y⟩
  have:=hi (i + 1) acc' σ2 H2 w2
  omega
 ·have e:i=n:=by omega
  subst e
  exact .inl ⟨stop acc σ' H' w,he acc σ' H' w⟩
theorem comp_list {a:Addr} {xs:List V} (Pv:Nat→List V→St→Hp→Prop) (h0:Pv 0 [] σ H) (hz:∀ i acc σ H,Pv i acc σ H→acc.length < sizeLine) (hi:∀ i acc σ H,Pv i acc σ H→i≤xs.length)
  (hl:∀ i acc σ H,Pv i acc σ H→SqL K H a xs)
  (hs:∀ i x acc σ H,xs[i]?=some x→Pv i acc σ H→g x σ H fun σ2 H3=>ti σ2 H3 fun b H4=>if b=true then te σ2 H4 fun v H5=>Pv (i + 1) (acc ++ [v]) σ2 H5 else Pv (i + 1) acc σ2 H4)
  (he:∀ acc σ H,Pv xs.length acc σ H→Q acc H):CompW (Itl K a) g ti te σ H Q:=by
 exact comp_by (J:=Itl K a) (g:=g) (ti:=ti) (te:=te) (Q:=Q) (n:=xs.length) Pv h0 hz hi (fun acc σ H w=>⟨xs,hl _ _ _ _ w,Nat.le_refl _⟩)
  (fun i acc σ H hlt w=>⟨xs,xs[i],hl _ _ _ _ w,List.getElem?_eq_getElem hlt⟩) (fun i x acc σ H H2 hlt w y=>by obtain ⟨rfl,hx⟩:=y;exact hs i x acc σ H2 (hx xs (hl _ _ _ _ w)) w) he
theorem comp_range {lo:Int} {n:Nat} (Pv:Nat→List V→St→Hp→Prop) (h0:Pv 0 [] σ H) (hz:∀ i acc σ H,Pv i acc σ H→acc.length < sizeLine) (hi:∀ i acc σ H,Pv i acc σ H→i≤n)
  (hs:∀ i acc σ H,i < n→Pv i acc σ H→g (.int (lo + i)) σ H fun σ2 H3=>ti σ2 H3 fun b H4=>if b=true then te σ2 H4 fun v H5=>Pv (i + 1) (acc ++ [v]) σ2 H5 else Pv (i + 1) acc σ2 H4)
  (he:∀ acc σ H,Pv n acc σ H→Q acc H):CompW (Itr lo n) g ti te σ H Q:=by
 exact comp_by (J:=Itr lo n) (g:=g) (ti:=ti) (te:=te) (Q:=Q) (n:=n) Pv h0 hz hi (fun acc σ H w=>Nat.le_refl _) (fun i acc σ H hlt w=>hlt) (fun i x acc σ H H2 hlt w y=>by obtain ⟨rfl,rfl⟩:=y;exact hs i acc σ H2 hlt w) he
end
end L2
set_option Elab.async false
set_option linter.all false
set_option maxRecDepth 100000
namespace L2
open PySem PySem.Spec PyProof.Rows
structure Cal (P:Program) (w:World) (K:PySem.W.Frag) (mg:Str→Option Value) (base:Heap) (CX:CXT) (k:Nat) (x:Str) (ps:List Str) (sp:Sp):Prop where
 ex:∃ (f:Addr) (fd:FuncData),FnOk P w K mg base CX k f fd ps sp∧mg x=some (.ref f)∧PySem.W.keepIn K (.ref f)=true∧Binds K fd ps []
structure NB (mg:Str→Option Value):Prop where
 len:mg "len" = none
 range:mg "range" = none
 list:mg "list" = none
 tuple:mg "tuple" = none
 isinstance:mg "isinstance" = none
 int:mg "int" = none
 bool:mg "bool" = none
 str:mg "str" = none
 reversed:mg "reversed" = none
 all:mg "all" = none
 enumerate:mg "enumerate" = none
 zip:mg "zip" = none
 sorted:mg "sorted" = none
 set:mg "set" = none
 dict:mg "dict" = none
 min:mg "min" = none
 max:mg "max" = none
 sum:mg "sum" = none
 ValueError:mg "ValueError" = none
section
variable {X:Cx} {CX:CXT} {k:Nat} {x:Str} {ps:List Str} {sp:Sp} {E:XK} {p pos:Pos} {e:Expr} {es:List Expr} {t:TA}
theorem pe_cal (C:Cal X.prog X.w X.K X.mg X.base CX k x ps sp) (hr:Room k X.A) (hg:Gl X x) (hx:Passes CX X E) (ha:PA X (e :: es) t) (hdb:(x == ("__debug__":Str))=false:=by decide +kernel)
  (hst:starEach (e :: es) X.env=(false,eval e X.env) :: starEach es X.env:=by rfl) (hpl:(backTo pos (starEach es X.env)).any (·.1)=false:=by rfl):PE X (.Call (.Name x p) (e :: es) [] pos) (tCall sp [] E t):=by
 obtain ⟨f,fd,F,hm,hk,hb⟩:=C.ex
 exact pe_call F hr hg hm hk hb .nil hx ha hdb hst hpl
end
section
variable {X:Cx} {tg:Expr}
def CDivP (_ j:Int):Prop:=0 < j∧j < 18446744073709551616
theorem op_fdivP:OpR X (binaryOp .FloorDiv) (rI CDivP fun i j=>.int (i / j)):=opI fun i j _ _ _ _ _ hc q=>by
 have h1:(0:Int) < j:=hc.1
 have h2:j < 18446744073709551616:=hc.2
 refine floordiv_int (by omega) (by rw [Int.fdiv_eq_ediv_of_nonneg i (by omega)];exact q) (.inl (PyProof.noPylong_of_log2 ?_))
 have h64:j.natAbs.log2 < 64:=(Nat.log2_lt (by omega)).mpr (by omega)
 omega
theorem strsAre_of:∀ {ys:List Str} {us:List Value},Vals (ys.map V.str) us→StrsAre us ys
 | [],_,.nil=>.nil
 | y :: ys,_,.cons r t=>by
  obtain ⟨tk,rfl⟩:=r
  exact .cons y tk (strsAre_of t)
def rJoin (K:PySem.W.Frag):V→List V→Hp→VK→Prop:=fun x xs H Q=>∃ z p ys,x=.str z∧xs=[.ref p]∧(SqL K H p (ys.map V.str)∨SqT K H p (ys.map V.str))∧(ys.map (·.length)).sum + ys.length * z.length≤16777216∧Q (.str (Txt.join z ys)) H
theorem mt_join:MtR X "str.join" (rJoin X.K):=by
 intro pins s σ H x xs v us Q I rx rv h
 obtain ⟨z,p,ys,rfl,rfl,hs,hz,q⟩:=h
 obtain ⟨t,rfl⟩:=rx
 obtain ⟨u,rfl,ru⟩:=rv.one
 cases ru
 rcases hs with hs | hs
 ·obtain ⟨its,r,pl,_⟩:=I.list hs
  exact join_list pl.isList (by simpa using strsAre_of r) hz fun t' k=>⟨.str _,H,I.tok k,⟨t',rfl⟩,q⟩
 ·obtain ⟨its,r,pl,_⟩:=I.tuple hs
  exact join_tuple pl (by simpa using strsAre_of r) hz fun t' k=>⟨.str _,H,I.tok k,⟨t',rfl⟩,q⟩
def Its (x:Str):It:=⟨fun i _=>i < x.cps.size,fun i H v H'=>H'=H∧∃ c,x.cps[i]?=some c∧v=.str ⟨#[c]⟩,fun i _=>x.cps.size≤i⟩
theorem turn_str {P:Program} {w:World} {K:PySem.W.Frag} {tg:Expr} (x:Str) (t:Tok) (it:Addr):Turn P w K tg (Its x) [it] it (fun i h=>h.IsStrIter it (strIterType x) x t i) where
 mem:=by simp
 obj:=fun i h st b hb=>by
  have e:b=it:=by simpa using hb
  subst e
  obtain ⟨o,e,c,d⟩:=st
  exact ⟨o,e,fun v z=>by rw [d] at z;cases z⟩
 keep:=fun i h h' st k=>by
  obtain ⟨o,e,c,d⟩:=st
  exact ⟨o,k it (by simp) o e,c,d⟩
 item:=by
  intro X hP hw hK hc i pins s σ H E I hf st hg
  subst hP hw hK
  obtain ⟨f0,f1,f2,f3,f4,f5⟩:=hf it (by simp)
  have hi:i < x.cps.size:=hg
  have hx:x.cps[i]?=some x.cps[i]:=Array.getElem?_eq_getElem hi
  have fin:∀ h',h'.IsStrIter it (strIterType x) x t (i + 1)→Heap.SameBut it s.heap h'→∃ u,(some (Value.str ⟨#[x.cps[i]]⟩ s.toks))=some u ∧
    wpAny (model X.prog X.w) X.A (letOwnedTupleGo tg (.ref it) u) (fun _ s2=>∃ v H',Inv X pins σ H' s2∧RelV v u∧(Its x).yld i H v H'∧s2.heap.IsStrIter it (strIterType x) x t (i + 1)∧∀ b∈[it],H' b=none) E { s with heap:=h',toks:=s.toks + 1 }:=fun h' st' sb=>by
   have I1:Inv X pins σ H { s with heap:=h',toks:=s.toks + 1 }:=I.turned (fun b o hb e=>(sb.2 b hb).trans e) f0 f1 f3 f4 f5
   obtain ⟨o,e,c,d⟩:=id st'
   refine ⟨_,rfl,go_of (s:={ s with heap:=h',toks:=s.toks + 1 }) e c d ?_ ⟨.str ⟨#[x.cps[i]]⟩,H,I1,⟨_,rfl⟩,⟨rfl,_,hx,rfl⟩,st',fun b hb=>(hf b hb).1⟩⟩
   unfold strIterType
   split <;> decide
  cases ha:x.cps.all (· < 128) with
  | true=>
   have ety:strIterType x = "str_ascii_iterator":=by unfold strIterType;rw [ha];rfl
   rw [ety] at st fin ⊢
   exact wpAny_pyNext_ascii_item st hx fin
  | false=>
   have ety:strIterType x = "str_iterator":=by unfold strIterType;rw [ha];rfl
   rw [ety] at st fin ⊢
   exact wpAny_pyNext_wide_item st hx fin
 done:=by
  intro X hP hw hK hc i pins s σ H E I hf st hg
  subst hP hw hK
  obtain ⟨f0,f1,f2,f3,f4,f5⟩:=hf it (by simp)
  have hi:x.cps.size≤i:=hg
  have hx:x.cps[i]?=none:=Array.getElem?_eq_none hi
  cases ha:x.cps.all (· < 128) with
  | true=>
   have ety:strIterType x = "str_ascii_iterator":=by unfold strIterType;rw [ha];rfl
   rw [ety] at st
   exact wpAny_pyNext_ascii_end (I.ok.hd hc) st hx fun h' eb=>⟨rfl,I.turned (t':=s.toks) (fun b o hb e=>eb b o hb e) f0 f1 f3 f4 f5⟩
  | false=>
   have ety:strIterType x = "str_iterator":=by unfold strIterType;rw [ha];rfl
   rw [ety] at st
   exact wpAny_pyNext_wide_end (I.ok.hd hc) st hx fun h' eb=>⟨rfl,I.turned (t':=s.toks) (fun b o hb e=>eb b o hb e) f0 f1 f3 f4 f5⟩
 self:=fun A i s Q E st h=>by
  cases ha:x.cps.all (· < 128) with
  | true=>
   have ety:strIterType x = "str_ascii_iterator":=by unfold strIterType;rw [ha];rfl
   rw [ety] at st
   exact wpAny_pyIter_striter_ascii st h
  | false=>
   have ety:strIterType x = "str_iterator":=by unfold strIterType;rw [ha];rfl
   rw [ety] at st
   exact wpAny_pyIter_striter_wide st h
def iStr (tl:TE):TI:=fun σ H R=>tl σ H fun v H1=>∃ x,v=.str x∧R (Its x) H1
theorem pi_str {l:Expr} {tl:TE} (hl:PE X l tl):PI X tg l (iStr tl):=by
 intro pins s σ H R I h
 refine thn (hl pins s σ H _ I h) fun v s1 ⟨x,H1,I1,r1,q1⟩=>?_
 obtain ⟨x,rfl,q⟩:=q1
 obtain ⟨t,rfl⟩:=r1
 refine wpAny_pyIter_strU ?_
 refine ⟨s1.heap.objs.size,[s1.heap.objs.size],_,_,H1,rfl,I1.kept (t':=s1.toks) fun b o e=>Heap.get?_push_of_some _ e,turn_str x t _,⟨_,Heap.get?_push_size _ rfl,rfl,rfl⟩,fun b hb=>?_,q⟩
 have e:b=s1.heap.objs.size:=by simpa using hb
 subst e
 exact I1.fpOk (Nat.le_refl _) (I1.hok.fresh (Nat.le_refl _))
def Itv (K:PySem.W.Frag) (a:Addr) (n:Nat):It:=
 ⟨fun i H=>∃ xs x,SqL K H a xs∧i < n∧xs[n - 1 - i]?=some x,fun i H x H'=>H'=H∧∀ xs,SqL K H a xs→xs[n - 1 - i]?=some x,fun i _=>i=n⟩
theorem turn_rev {P:Program} {w:World} {K:PySem.W.Frag} {tg:Expr} (a it:Addr) (n:Nat):Turn P w K tg (Itv K a n) [it] it (fun i h=>h.IsRevIter it a ((n:Int) - 1 - (i:Int))) where
 mem:=by simp
 obj:=fun i h st b hb=>by
  have e:b=it:=by simpa using hb
  subst e
  obtain ⟨o,e,c,d⟩:=st
  exact ⟨o,e,fun v z=>by rw [d] at z;cases z⟩
 keep:=fun i h h' st k=>st.at fun o e=>k it (by simp) o e
 item:=by
  intro X hP hw hK hc i pins s σ H E I hf st hg
  subst hP hw hK
  obtain ⟨xs,x,hq,hi,hx⟩:=hg
  obtain ⟨its,rv,p,hz⟩:=I.list hq
  obtain ⟨u,hu,ru⟩:=rv.get hx
  obtain ⟨f0,f1,f2,f3,f4,f5⟩:=hf it (by simp)
  have e:(n:Int) - 1 - (i:Int)=((n - 1 - i:Nat):Int):=by omega
  have st1:=st
  rw [e] at st1
  refine wpAny_pyNext_rev_item st1 p.isList (x:=u) (by simpa using hu) fun h' st' sb=>?_
  have e2:((n - 1 - i:Nat):Int) - 1=(n:Int) - 1 - ((i + 1:Nat):Int):=by omega
  rw [e2] at st'
  have I1:Inv X pins σ H { s with heap:=h' }:=I.turned (t':=s.toks) (fun b o hb e=>(sb.2 b hb).trans e) f0 f1 f3 f4 f5
  obtain ⟨o,e,c,d⟩:=id st'
  exact ⟨u,rfl,go_of (s:={ s with heap:=h' }) e c d (by decide) ⟨x,H,I1,ru,⟨rfl,fun ys hy=>by rw [I.list_inj hy hq];exact hx⟩,st',fun b hb=>(hf b hb).1⟩⟩
 done:=by
  intro X hP hw hK hc i pins s σ H E I hf st hg
  subst hP hw hK
  obtain ⟨f0,f1,f2,f3,f4,f5⟩:=hf it (by simp)
  have hi:i=n:=hg
  subst hi
  have e:(i:Int) - 1 - (i:Int) = -1:=by omega
  rw [e] at st
  exact wpAny_pyNext_rev_end (I.ok.hd hc) st fun h' eb=>⟨rfl,I.turned (t':=s.toks) (fun b o hb e=>eb b o hb e) f0 f1 f3 f4 f5⟩
 self:=fun _ _ _ _ _ st h=>wpAny_pyIter_revIter st h
def iRev (K:PySem.W.Frag) (ta:TA):TI:=fun σ H R=>ta σ H fun vs H1=>∃ a xs,vs=[.ref a]∧SqL K H1 a xs∧R (Itv K a xs.length) H1
theorem pi_rev {a:Expr} {ta:TA} {p pos:Pos} (hg:Gl X "reversed") (hm:X.mg "reversed" = none) (ha:PA X [a] ta) (hs:starEach [a] X.env=[(false,eval a X.env)]:=by rfl):PI X tg (.Call (.Name "reversed" p) [a] [] pos) (iRev X.K ta):=by
 intro pins s σ H R I h
 refine Call_ (ld_blt I hg hm boot_reversed (PyProof.Rows.callWith_type1 (thn (ha pos pins s σ H _ I h) fun us s1 ⟨vs,H1,I1,r1,q1⟩=>?_) hs rfl))
 obtain ⟨l,xs,rfl,hq,q⟩:=q1
 obtain ⟨u,rfl,ru⟩:=r1.one
 cases ru
 obtain ⟨its,rv,pl,hz⟩:=I1.list hq
 have hlen:=rv.length
 refine call_reversed_list pl.isList ?_
 have es:its.toArray.size=xs.length:=by rw [List.size_toArray,hlen]
 rw [es]
 have I2:Inv X pins σ H1 { s1 with heap:=s1.heap.push (revObj l ((xs.length:Int) - 1)) }:=I1.kept (t':=s1.toks) fun b o e=>Heap.get?_push_of_some _ e
 have st:(s1.heap.push (revObj l ((xs.length:Int) - 1))).IsRevIter s1.heap.objs.size l ((xs.length:Int) - 1 - ((0:Nat):Int)):=⟨_,Heap.get?_push_size _ rfl,rfl,by simp [revObj]⟩
 refine wpAny_pyIter_revIter st ?_
 refine ⟨s1.heap.objs.size,[s1.heap.objs.size],_,_,H1,rfl,I2,turn_rev l _ xs.length,st,fun b hb=>?_,q⟩
 have e:b=s1.heap.objs.size:=by simpa using hb
 subst e
 exact I1.fpOk (Nat.le_refl _) (I1.hok.fresh (Nat.le_refl _))
def rSlS:V→Option Int→Option Int→Hp→VK→Prop:=fun x lo hi H Q=>∃ z,x=.str z∧z.length≤sizeLine∧Q (.str (Txt.slice z lo hi)) H
def tJR (sep:Str) (ta:TA):TE:=fun σ H Q=>ta σ H fun vs H1=>∃ x,vs=[.str x]∧x.length≤1000∧sep.length≤1000∧Q (.str (Txt.join sep (x.cps.toList.reverse.map fun c=>(⟨#[c]⟩:Str)))) H1
theorem pe_joinrev {e:Expr} {ta:TA} {sep:Str} {j:Nat} {p0 ap p1 p2 cpos:Pos} (hc:X.calm=true) (hg:Gl X "reversed") (hm:X.mg "reversed" = none) (ha:PA X [e] ta)
  (hfew:((backTo cpos (starEach [.Call (.Name "reversed" p1) [e] [] p2] X.env)).all (fun x=>!x.1) && (backToKw cpos (keywordEach [] X.env)).all (fun x=>x.1.isSome)
   && decide ([Expr.Call (.Name "reversed" p1) [e] [] p2].length + ([]:List Keyword).length + (if ([]:List Keyword).isEmpty then 0 else 1) < 30))=true:=by rfl)
  (hline:(ap.endLine == cpos.line)=true:=by rfl) (hs:starEach [e] X.env=[(false,eval e X.env)]:=by rfl) :
  PE X (.Call (.Attribute (.Constant (.str sep) j p0) "join" ap) [.Call (.Name "reversed" p1) [e] [] p2] [] cpos) (tJR sep ta):=by
 intro pins s σ H Q I h
 refine wpAny_Call_method_late rfl hfew hline rfl (thn (pe_str (X:=X) pins s σ H (fun v H1=>v=.str sep∧H1=H) I ⟨rfl,rfl⟩) fun v s1 ⟨x,H1,I1,r1,hx⟩=>?_)
 obtain ⟨rfl,rfl⟩:=hx
 obtain ⟨t0,rfl⟩:=r1
 refine ⟨"str",_,F.plainAttrs_str,F.slot_str_join,F.type_str_join,typeIs_str _ _ _,(fun a z=>nomatch z),?_⟩
 refine Calls.callWith_builtin rfl (Calls.evalArgs_plain ?_)
 show wpAny _ _ (spliced ((false,eval (.Call (.Name "reversed" p1) [e] [] p2) X.env) :: [])) _ _ s1
 refine Calls.spliced_cons ?_
 refine Call_ (ld_blt I1 hg hm boot_reversed (PyProof.Rows.callWith_type1 (thn (ha p2 pins s1 σ H1 _ I1 h) fun us s2 ⟨vs,H2,I2,r2,q2⟩=>?_) hs rfl))
 obtain ⟨x,rfl,hz,hsp,q⟩:=q2
 obtain ⟨u,rfl,ru⟩:=r2.one
 obtain ⟨t,rfl⟩:=ru
 have hsl:sizeLine=16777216:=sizeLine_eq
 refine call_reversed_str (by omega) (Calls.spliced_nil ?_)
 have I3:Inv X pins σ H2 { s2 with heap:=s2.heap.push (rvsObj x t ((x.length:Int) - 1)),toks:=s2.toks + 1 + 1 }:=I2.kept fun b o e=>Heap.get?_push_of_some _ e
 have fp:=I2.fpOk (b:=s2.heap.objs.size) (H':=H2) (Nat.le_refl _) (I2.hok.fresh (Nat.le_refl _))
 obtain ⟨f0,f1,f2,f3,f4,f5⟩:=fp
 refine join_rvs (I3.ok.hd hc) (I:=s2.heap.objs.size) (x:=x) (t:=t) ⟨_,Heap.get?_push_size _ rfl,rfl,rfl⟩ hz hsp fun s' t' k keep eg ed eo=>?_
 obtain ⟨h',g',d',k',o'⟩:=s'
 cases eg
 cases ed
 cases eo
 exact ⟨.str _,H2,I3.turned (t':=k) (fun b o hb e=>keep b o hb e) f0 f1 f3 f4 f5,⟨t',rfl⟩,q⟩
def clsV:V→Value
 | .ty n=>.type n
 | .ref a=>.ref a
 | _=>.none
def isClsV:V→Bool
 | .ty _=>true
 | .ref _=>true
 | _=>false
theorem clsV_of {c:V} {u:Value} (r:RelV c u) (h:isClsV c=true):u=clsV c:=by
 cases c with
 | ty n=>exact r
 | ref a=>exact r
 | _=>cases h
def rIsi (K:PySem.W.Frag):List V→Hp→VK→Prop:=fun xs H Q=>∃ x c t b,xs=[x,c]∧isClsV c=true∧TyOf K H x t∧PySem.W.kitOne K t (clsV c)=some b∧Q (.bl b) H
theorem call_isinstance:CallR X (.builtin "isinstance") (rIsi X.K):=by
 intro pins s σ H xs us Q I r h
 obtain ⟨x,c,t,b,rfl,hc,ty,e,q⟩:=h
 obtain ⟨u,v,rfl,ru,rv⟩:=r.two
 rw [clsV_of rv hc]
 exact isinst_ok I ru ty e fun tk=>⟨.bl b,H,I.tok tk,rfl,q⟩
theorem kit_same (K:PySem.W.Frag) (n:String):PySem.W.kitOne K (.type n) (.type n)=some true:=by
 unfold PySem.W.kitOne
 rw [if_pos (beq_self_eq_true _)]
inductive Dt where
 | non | bl (b:Bool) | int (i:Int) | str (x:Str) | lst (ds:List Dt) | tup (ds:List Dt)
mutual
def RdD (K:PySem.W.Frag) (H:Hp):Dt→V→Prop
 | .non,v=>v=.non
 | .bl b,v=>v=.bl b
 | .int i,v=>v=.int i
 | .str x,v=>v=.str x
 | .lst ds,v=>∃ a xs,v=.ref a∧SqL K H a xs∧RdDs K H ds xs
 | .tup ds,v=>∃ a xs,v=.ref a∧SqT K H a xs∧RdDs K H ds xs
def RdDs (K:PySem.W.Frag) (H:Hp):List Dt→List V→Prop
 | [],xs=>xs=[]
 | d :: ds,xs=>∃ x r,xs=x :: r∧RdD K H d x∧RdDs K H ds r
end
mutual
def Dt.dep:Dt→Nat
 | .lst ds=>Dt.deps ds + 1
 | .tup ds=>Dt.deps ds + 1
 | _=>0
def Dt.deps:List Dt→Nat
 | []=>0
 | d :: ds=>max (Dt.dep d) (Dt.deps ds)
end
theorem RdDs.length {K:PySem.W.Frag} {H:Hp}:∀ {ds:List Dt} {xs:List V},RdDs K H ds xs→xs.length=ds.length
 | [],_,h=>by unfold RdDs at h;rw [h];rfl
 | d :: ds,xs,h=>by
  unfold RdDs at h
  obtain ⟨x,r,rfl,_,h2⟩:=h
  simp [RdDs.length h2]
theorem RdDs.get {K:PySem.W.Frag} {H:Hp}:∀ {ds:List Dt} {xs:List V} {j:Nat} {x:V},RdDs K H ds xs→xs[j]?=some x→∃ d,ds[j]?=some d∧RdD K H d x
 | [],_,_,_,h,e=>by unfold RdDs at h;rw [h] at e;simp at e
 | d :: ds,xs,j,x,h,e=>by
  unfold RdDs at h
  obtain ⟨y,r,rfl,h1,h2⟩:=h
  cases j with
  | zero=>simp at e;subst e;exact ⟨d,rfl,h1⟩
  | succ j=>
   obtain ⟨d',e1,e2⟩:=RdDs.get (j:=j) h2 (by simpa using e)
   exact ⟨d',by simpa using e1,e2⟩
theorem deps_get:∀ {ds:List Dt} {j:Nat} {d:Dt},ds[j]?=some d→d.dep≤Dt.deps ds
 | [],_,_,e=>by simp at e
 | d' :: ds,0,d,e=>by simp at e;subst e;unfold Dt.deps;omega
 | d' :: ds,j + 1,d,e=>by
  have:=deps_get (ds:=ds) (j:=j) (by simpa using e)
  unfold Dt.deps;omega
theorem all_true (n:Nat):(List.range n).all (fun _=>true)=true:=by simp
theorem eqSame {pins:List (Addr × Obj)} {σ:St} {H:Hp} {s:Shared} (I:Inv X pins σ H s):∀ (n:Nat) (d:Dt) (A:Around) {v u:V} {vv uu:Value},d.dep≤n→A.units + n < cLine→RdD X.K H d v→RdD X.K H d u→RelV v vv→RelV u uu→SeqAt.EqAt A s vv uu true:=by
 intro n
 induction n with
 | zero=>
  intro d A v u vv uu hd hA h1 h2 r1 r2
  cases d with
  | non=>unfold RdD at h1 h2;subst h1 h2;have:=eqAt_V (A:=A) (s:=s) r1 r2 rfl rfl;exact this
  | bl b=>unfold RdD at h1 h2;subst h1 h2;have:=eqAt_V (A:=A) (s:=s) r1 r2 rfl rfl;simpa [eqV] using this
  | int i=>unfold RdD at h1 h2;subst h1 h2;have:=eqAt_V (A:=A) (s:=s) r1 r2 rfl rfl;simpa [eqV] using this
  | str x=>unfold RdD at h1 h2;subst h1 h2;have:=eqAt_V (A:=A) (s:=s) r1 r2 rfl rfl;simpa [eqV] using this
  | lst ds=>unfold Dt.dep at hd;omega
  | tup ds=>unfold Dt.dep at hd;omega
 | succ n ih=>
  intro d A v u vv uu hd hA h1 h2 r1 r2
  cases d with
  | non=>unfold RdD at h1 h2;subst h1 h2;have:=eqAt_V (A:=A) (s:=s) r1 r2 rfl rfl;exact this
  | bl b=>unfold RdD at h1 h2;subst h1 h2;have:=eqAt_V (A:=A) (s:=s) r1 r2 rfl rfl;simpa [eqV] using this
  | int i=>unfold RdD at h1 h2;subst h1 h2;have:=eqAt_V (A:=A) (s:=s) r1 r2 rfl rfl;simpa [eqV] using this
  | str x=>unfold RdD at h1 h2;subst h1 h2;have:=eqAt_V (A:=A) (s:=s) r1 r2 rfl rfl;simpa [eqV] using this
  | lst ds=>
   unfold RdD at h1 h2
   obtain ⟨a,xs,rfl,ha,hxs⟩:=h1
   obtain ⟨b,ys,rfl,hb,hys⟩:=h2
   cases r1;cases r2
   by_cases hab:a=b
   ·subst hab;exact SeqAt.EqAt.same _
   ·unfold Dt.dep at hd
    obtain ⟨its,ra,pa,_⟩:=I.list ha
    obtain ⟨its2,rb,pb,_⟩:=I.list hb
    have l1:=ra.length;have l2:=rb.length;have l3:=hxs.length;have l4:=hys.length
    have hsz:its.toArray.size=its2.toArray.size:=by simp;omega
    have q:=SeqAt.RcAt.lists (A:=A) (s:=s) (e:=fun _=>true) pa.isList pb.isList hsz (by omega) fun j g1 g2=>by
     have g1':j < its.length:=by simpa using g1
     have g2':j < its2.length:=by simpa using g2
     have x1:xs[j]?=some xs[j]:=List.getElem?_eq_getElem (by omega)
     have y1:ys[j]?=some ys[j]:=List.getElem?_eq_getElem (by omega)
     obtain ⟨d,e1,rd1⟩:=hxs.get x1
     obtain ⟨d',e2,rd2⟩:=hys.get y1
     rw [e1] at e2;cases e2
     obtain ⟨w1,f1,rr1⟩:=ra.get x1
     obtain ⟨w2,f2,rr2⟩:=rb.get y1
     rw [List.getElem?_eq_getElem g1'] at f1
     rw [List.getElem?_eq_getElem g2'] at f2
     cases f1;cases f2
     have hdep:=deps_get e1
     simp only [List.getElem_toArray]
     exact ih d A.in1 (by omega) (by show A.units + 1 + n < cLine;omega) rd1 rd2 rr1 rr2
    rw [all_true] at q
    exact SeqAt.EqAt.of_refs hab q
  | tup ds=>
   unfold RdD at h1 h2
   obtain ⟨a,xs,rfl,ha,hxs⟩:=h1
   obtain ⟨b,ys,rfl,hb,hys⟩:=h2
   cases r1;cases r2
   by_cases hab:a=b
   ·subst hab;exact SeqAt.EqAt.same _
   ·unfold Dt.dep at hd
    obtain ⟨its,ra,pa,_⟩:=I.tuple ha
    obtain ⟨its2,rb,pb,_⟩:=I.tuple hb
    have l1:=ra.length;have l2:=rb.length;have l3:=hxs.length;have l4:=hys.length
    have q:=SeqAt.RcAt.tuples (A:=A) (s:=s) (e:=fun _=>true) (show s.heap.IsTuple a its.toArray from pa) (show s.heap.IsTuple b its2.toArray from pb) (by omega) fun j g1 g2=>by
     have g1':j < its.length:=by simpa using g1
     have g2':j < its2.length:=by simpa using g2
     have x1:xs[j]?=some xs[j]:=List.getElem?_eq_getElem (by omega)
     have y1:ys[j]?=some ys[j]:=List.getElem?_eq_getElem (by omega)
     obtain ⟨d,e1,rd1⟩:=hxs.get x1
     obtain ⟨d',e2,rd2⟩:=hys.get y1
     rw [e1] at e2;cases e2
     obtain ⟨w1,f1,rr1⟩:=ra.get x1
     obtain ⟨w2,f2,rr2⟩:=rb.get y1
     rw [List.getElem?_eq_getElem g1'] at f1
     rw [List.getElem?_eq_getElem g2'] at f2
     cases f1;cases f2
     have hdep:=deps_get e1
     simp only [List.getElem_toArray]
     exact ih d A.in1 (by omega) (by show A.units + 1 + n < cLine;omega) rd1 rd2 rr1 rr2
    have e0:((List.range (min its.toArray.size its2.toArray.size)).all (fun _=>true) && its.toArray.size == its2.toArray.size)=true:=by
     rw [all_true,Bool.true_and];simp;omega
    rw [e0] at q
    exact SeqAt.EqAt.of_refs hab q
def rEqD (K:PySem.W.Frag) (neg:Bool):R2:=fun x y H Q=>
 (∃ ds,Dt.deps ds≤40∧((RdD K H (.lst ds) x∧RdD K H (.lst ds) y)∨(RdD K H (.tup ds) x∧RdD K H (.tup ds) y))∧Q (.bl (!neg)) H) ∨
 (∃ a b xs ys,x=.ref a∧y=.ref b∧SqL K H a xs∧SqL K H b ys∧xs.length≠ys.length∧Q (.bl neg) H)
theorem op_eqD (hu:X.A.units + 64 < cLine):OpR X (compareOp .Eq) (rEqD X.K false):=by
 intro pins s σ H x y v u Q I rx ry h
 rcases h with ⟨ds,hd,h,q⟩ | ⟨a,b,xs,ys,rfl,rfl,ha,hb,hne,q⟩
 ·have fin:EP X pins σ Q (.bool true) s:=⟨.bl true,H,I,rfl,q⟩
  have item:∀ {xs ys:List V} {its its2:List Value},RdDs X.K H ds xs→RdDs X.K H ds ys→Vals xs its→Vals ys its2→∀ j (h1:j < its.toArray.size) (h2:j < its2.toArray.size),SeqAt.EqAt X.A.in1 s its.toArray[j] its2.toArray[j] true:=fun {xs ys its its2} hxs hys ra rb j g1 g2=>by
   have l1:=ra.length;have l2:=rb.length;have l3:=hxs.length;have l4:=hys.length
   have g1':j < its.length:=by simpa using g1
   have g2':j < its2.length:=by simpa using g2
   have x1:xs[j]?=some xs[j]:=List.getElem?_eq_getElem (by omega)
   have y1:ys[j]?=some ys[j]:=List.getElem?_eq_getElem (by omega)
   obtain ⟨d,e1,rd1⟩:=hxs.get x1
   obtain ⟨d',e2,rd2⟩:=hys.get y1
   rw [e1] at e2;cases e2
   obtain ⟨w1,f1,rr1⟩:=ra.get x1
   obtain ⟨w2,f2,rr2⟩:=rb.get y1
   rw [List.getElem?_eq_getElem g1'] at f1
   rw [List.getElem?_eq_getElem g2'] at f2
   cases f1;cases f2
   have hdep:=deps_get e1
   simp only [List.getElem_toArray]
   exact eqSame I 40 d X.A.in1 (by omega) (by show X.A.units + 1 + 40 < cLine;omega) rd1 rd2 rr1 rr2
  rcases h with ⟨h1,h2⟩ | ⟨h1,h2⟩
  ·unfold RdD at h1 h2
   obtain ⟨a,xs,rfl,ha,hxs⟩:=h1
   obtain ⟨b,ys,rfl,hb,hys⟩:=h2
   cases rx;cases ry
   obtain ⟨its,ra,pa,_⟩:=I.list ha
   obtain ⟨its2,rb,pb,_⟩:=I.list hb
   have l1:=ra.length;have l2:=rb.length;have l3:=hxs.length;have l4:=hys.length
   have q:=SeqAt.RcAt.lists (A:=X.A) (s:=s) (e:=fun _=>true) pa.isList pb.isList (by simp;omega) (by omega) (item hxs hys ra rb)
   rw [all_true] at q
   exact q _ _ _ _ fin
  ·unfold RdD at h1 h2
   obtain ⟨a,xs,rfl,ha,hxs⟩:=h1
   obtain ⟨b,ys,rfl,hb,hys⟩:=h2
   cases rx;cases ry
   obtain ⟨its,ra,pa,_⟩:=I.tuple ha
   obtain ⟨its2,rb,pb,_⟩:=I.tuple hb
   have l1:=ra.length;have l2:=rb.length;have l3:=hxs.length;have l4:=hys.length
   have q:=SeqAt.RcAt.tuples (A:=X.A) (s:=s) (e:=fun _=>true) (show s.heap.IsTuple a its.toArray from pa) (show s.heap.IsTuple b its2.toArray from pb) (by omega) (item hxs hys ra rb)
   have e0:((List.range (min its.toArray.size its2.toArray.size)).all (fun _=>true) && its.toArray.size == its2.toArray.size)=true:=by
    rw [all_true,Bool.true_and];simp;omega
   rw [e0] at q
   exact q _ _ _ _ fin
 ·cases rx;cases ry
  obtain ⟨its,ra,pa,_⟩:=I.list ha
  obtain ⟨its2,rb,pb,_⟩:=I.list hb
  have l1:=ra.length;have l2:=rb.length
  exact SeqAt.RcAt.lists_lengths pa.isList pb.isList (by simp;omega) (by omega) _ _ _ _ ⟨.bl false,H,I,rfl,q⟩
theorem op_neD (hu:X.A.units + 64 < cLine):OpR X (compareOp .NotEq) (rEqD X.K true):=by
 intro pins s σ H x y v u Q I rx ry h
 rcases h with ⟨ds,hd,h,q⟩ | ⟨a,b,xs,ys,rfl,rfl,ha,hb,hne,q⟩
 ·have fin:EP X pins σ Q (.bool false) s:=⟨.bl false,H,I,rfl,q⟩
  have item:∀ {xs ys:List V} {its its2:List Value},RdDs X.K H ds xs→RdDs X.K H ds ys→Vals xs its→Vals ys its2→∀ j (h1:j < its.toArray.size) (h2:j < its2.toArray.size),SeqAt.EqAt X.A.in1 s its.toArray[j] its2.toArray[j] true:=fun {xs ys its its2} hxs hys ra rb j g1 g2=>by
   have l1:=ra.length;have l2:=rb.length;have l3:=hxs.length;have l4:=hys.length
   have g1':j < its.length:=by simpa using g1
   have g2':j < its2.length:=by simpa using g2
   have x1:xs[j]?=some xs[j]:=List.getElem?_eq_getElem (by omega)
   have y1:ys[j]?=some ys[j]:=List.getElem?_eq_getElem (by omega)
   obtain ⟨d,e1,rd1⟩:=hxs.get x1
   obtain ⟨d',e2,rd2⟩:=hys.get y1
   rw [e1] at e2;cases e2
   obtain ⟨w1,f1,rr1⟩:=ra.get x1
   obtain ⟨w2,f2,rr2⟩:=rb.get y1
   rw [List.getElem?_eq_getElem g1'] at f1
   rw [List.getElem?_eq_getElem g2'] at f2
   cases f1;cases f2
   have hdep:=deps_get e1
   simp only [List.getElem_toArray]
   exact eqSame I 40 d X.A.in1 (by omega) (by show X.A.units + 1 + 40 < cLine;omega) rd1 rd2 rr1 rr2
  rcases h with ⟨h1,h2⟩ | ⟨h1,h2⟩
  ·unfold RdD at h1 h2
   obtain ⟨a,xs,rfl,ha,hxs⟩:=h1
   obtain ⟨b,ys,rfl,hb,hys⟩:=h2
   cases rx;cases ry
   obtain ⟨its,ra,pa,_⟩:=I.list ha
   obtain ⟨its2,rb,pb,_⟩:=I.list hb
   have l1:=ra.length;have l2:=rb.length;have l3:=hxs.length;have l4:=hys.length
   have q:=SeqAt.RcNeAt.lists (A:=X.A) (s:=s) (e:=fun _=>true) pa.isList pb.isList (by simp;omega) (by omega) (item hxs hys ra rb)
   rw [all_true] at q
   exact q _ _ _ _ fin
  ·unfold RdD at h1 h2
   obtain ⟨a,xs,rfl,ha,hxs⟩:=h1
   obtain ⟨b,ys,rfl,hb,hys⟩:=h2
   cases rx;cases ry
   obtain ⟨its,ra,pa,_⟩:=I.tuple ha
   obtain ⟨its2,rb,pb,_⟩:=I.tuple hb
   have l1:=ra.length;have l2:=rb.length;have l3:=hxs.length;have l4:=hys.length
   have q:=SeqAt.RcNeAt.tuples (A:=X.A) (s:=s) (e:=fun _=>true) (show s.heap.IsTuple a its.toArray from pa) (show s.heap.IsTuple b its2.toArray from pb) (by omega) (item hxs hys ra rb)
   have e0:((List.range (min its.toArray.size its2.toArray.size)).all (fun _=>true) && its.toArray.size == its2.toArray.size)=true:=by
    rw [all_true,Bool.true_and];simp;omega
   rw [e0] at q
   exact q _ _ _ _ fin
 ·cases rx;cases ry
  obtain ⟨its,ra,pa,_⟩:=I.list ha
  obtain ⟨its2,rb,pb,_⟩:=I.list hb
  have l1:=ra.length;have l2:=rb.length
  exact SeqAt.RcNeAt.lists_lengths pa.isList pb.isList (by simp;omega) (by omega) _ _ _ _ ⟨.bl true,H,I,rfl,q⟩
theorem rd_strs {K:PySem.W.Frag} {H:Hp} {ys:List Str}:RdDs K H (ys.map Dt.str) (ys.map V.str):=by
 induction ys with
 | nil=>unfold RdDs;rfl
 | cons y ys ih=>
  show RdDs K H (Dt.str y :: ys.map Dt.str) (V.str y :: ys.map V.str)
  unfold RdDs
  exact ⟨_,_,rfl,by unfold RdD;rfl,ih⟩
theorem deps_strs (ys:List Str):Dt.deps (ys.map Dt.str)=0:=by
 induction ys with
 | nil=>rfl
 | cons y ys ih=>show max (Dt.dep (.str y)) (Dt.deps (ys.map Dt.str))=0;rw [ih];rfl
end
end L2
namespace Pic
abbrev Row:=List Nat
abbrev Pic:=List Row
def rect (p:Pic) (r c:Nat):Prop:=p.length=r∧∀ x∈p,x.length=c
def mirror (p:Pic):Pic:=p.map List.reverse
def col (p:Pic) (i:Nat):Row:=p.reverse.map fun x=>x.getD i 0
def quarter (p:Pic):Pic:=(List.range (p.headD []).length).map (col p)
def quarters:Nat→Pic→Pic
 | 0,p=>p
 | n + 1,p=>quarters n (quarter p)
def turned (p:Pic) (t:Nat):Pic:=quarters (t % 4) (if 4≤t then mirror p else p)
theorem rect_row {p:Pic} {r c i:Nat} (h:rect p r c) (hi:i < r):(p.getD i []).length=c:=by
 have hl:i < p.length:=by rw [h.1];exact hi
 rw [List.getD_eq_getElem?_getD,List.getElem?_eq_getElem hl]
 exact h.2 _ (List.getElem_mem hl)
theorem rect_head {p:Pic} {r c:Nat} (h:rect p r c) (hr:0 < r):(p.headD []).length=c:=by
 have:=rect_row h hr
 cases p with
 | nil=>have:=h.1;simp at this;omega
 | cons x p=>simpa using this
theorem rect_mirror {p:Pic} {r c:Nat} (h:rect p r c):rect (mirror p) r c:=by
 refine ⟨by simp [mirror,h.1],fun x hx=>?_⟩
 obtain ⟨y,hy,rfl⟩:=List.mem_map.mp hx
 rw [List.length_reverse];exact h.2 y hy
theorem rect_quarter {p:Pic} {r c:Nat} (h:rect p r c) (hr:0 < r):rect (quarter p) c r:=by
 refine ⟨by unfold quarter;rw [List.length_map,List.length_range,rect_head h hr],fun x hx=>?_⟩
 obtain ⟨i,_,rfl⟩:=List.mem_map.mp hx
 simp [col,h.1]
theorem rect_quarters:∀ (n:Nat) {p:Pic} {r c:Nat},rect p r c→0 < r→0 < c→rect (quarters n p) (if n % 2=0 then r else c) (if n % 2=0 then c else r)
 | 0,_,_,_,h,_,_=>h
 | n + 1,p,r,c,h,hr,hc=>by
  have:=rect_quarters n (rect_quarter h hr) hc hr
  show rect (quarters n (quarter p)) _ _
  by_cases e:n % 2=0
  ·rw [if_pos e,if_pos e] at this
   rw [if_neg (by omega),if_neg (by omega)];exact this
  ·rw [if_neg e,if_neg e] at this
   rw [if_pos (by omega),if_pos (by omega)];exact this
theorem quarters_add (a b:Nat) (p:Pic):quarters a (quarters b p)=quarters (b + a) p:=by
 induction b generalizing p with
 | zero=>rw [Nat.zero_add];rfl
 | succ b ih=>show quarters a (quarters b (quarter p))=_;rw [ih,Nat.add_right_comm];rfl
def after (t u:Nat):Nat:=if u < 4 then t / 4 * 4 + (t + u) % 4 else (1 - t / 4) * 4 + (u + 8 - t) % 4
def back (t:Nat):Nat:=if t < 4 then (4 - t) % 4 else t
end Pic
set_option Elab.async false
set_option linter.all false
set_option maxRecDepth 100000
namespace QL
open PySem L2 Pic
def tx (r:List Nat):Str:=⟨r.toArray⟩
def rowsV (p:Pic):List V:=p.map fun r=>V.str (tx r)
theorem tx_length (r:List Nat):(tx r).length=r.length:=by show r.toArray.size=r.length;simp
theorem tx_list (r:List Nat):(tx r).cps.toList=r:=by show r.toArray.toList=r;simp
theorem rowsV_length (p:Pic):(rowsV p).length=p.length:=by unfold rowsV;simp
theorem rowsV_strs (p:Pic):rowsV p=(p.map tx).map V.str:=by unfold rowsV;rw [List.map_map];rfl
theorem rowsV_get {p:Pic} {i:Nat} (h:i < p.length):(rowsV p)[i]?=some (V.str (tx p[i])):=by unfold rowsV;rw [List.getElem?_map,List.getElem?_eq_getElem h];rfl
theorem rowsV_append (p:Pic) (r:List Nat):rowsV (p ++ [r])=rowsV p ++ [V.str (tx r)]:=by unfold rowsV;simp
theorem join_nil:∀ (ys:List (List Nat)),Txt.join (Str.ofString "") (ys.map tx)=tx ys.flatten
 | []=>rfl
 | y :: ys=>by
  have key:∀ (zs:List (List Nat)) (a:List Nat),(zs.map tx).foldl (fun acc (p:Str)=>acc ++ (Str.ofString "").cps ++ p.cps) a.toArray=(a ++ zs.flatten).toArray:=by
   intro zs
   induction zs with
   | nil=>intro a;simp
   | cons z zs ih=>
    intro a
    rw [List.map_cons,List.foldl_cons]
    have e:a.toArray ++ (Str.ofString "").cps ++ (tx z).cps=(a ++ z).toArray:=by
     have e0:(Str.ofString "").cps=#[]:=rfl
     rw [e0]
     show a.toArray ++ #[] ++ z.toArray=_
     simp
    rw [e,ih]
    simp
  show (⟨(ys.map tx).foldl (fun acc (p:Str)=>acc ++ (Str.ofString "").cps ++ p.cps) (tx y).cps⟩:Str)=_
  show (⟨(ys.map tx).foldl (fun acc (p:Str)=>acc ++ (Str.ofString "").cps ++ p.cps) y.toArray⟩:Str)=_
  rw [key]
  rfl
theorem join_ones (r:List Nat):Txt.join (Str.ofString "") (r.map fun c=>(⟨#[c]⟩:Str))=tx r:=by
 have e:(r.map fun c=>(⟨#[c]⟩:Str))=(r.map fun c=>[c]).map tx:=by rw [List.map_map];rfl
 rw [e,join_nil]
 congr 1
 clear e
 induction r with
 | nil=>rfl
 | cons c r ih=>simp [ih]
def Small (p:Pic):Prop:=p.length≤64∧∀ r∈p,r.length≤64
theorem Small.of {p:Pic} {r c:Nat} (h:rect p r c) (hr:r≤64) (hc:c≤64):Small p:=⟨by rw [h.1];exact hr,fun x hx=>by rw [h.2 x hx];exact hc⟩
theorem line_big {n:Nat} (h:n≤1000000):n < sizeLine:=by have:=sizeLine_eq;omega
theorem line_le {n:Nat} (h:n≤1000000):n≤sizeLine:=by have:=sizeLine_eq;omega
theorem same_upd {H:Hp} {l:Addr} {o:HO} (h:H l=none):Same H (upd H l o):=fun b u e=>by rw [upd_ne (ne_of_none e h)];exact e
theorem same_upd2 {H0 H:Hp} {l:Addr} {o:HO} (s:Same H0 H) (h:H0 l=none):Same H0 (upd H l o):=fun b u e=>by rw [upd_ne (ne_of_none e h)];exact s b u e
theorem rows_row {p:Pic} {r c i:Nat} (h:rect p r c) (hi:i < r):∃ hl:i < p.length,(p[i]).length=c:=⟨by rw [h.1];exact hi,h.2 _ (List.getElem_mem _)⟩
def GivesPic (H:Hp) (p:Pic) (Q:VK):Prop:=∀ (l:Addr) (H':Hp),H l=none→H' l=some (.lst (rowsV p))→Same H H'→Q (.ref l) H'
theorem atI_in {α:Type} {xs:List α} {i:Int} (h0:0≤i) (h1:i < xs.length):∃ v,v∈xs∧atI xs i=some v:=by
 have hb:i.toNat < xs.length:=by omega
 obtain ⟨j,hj⟩:∃ j:Nat,i=(j:Int):=⟨i.toNat,by omega⟩
 subst hj
 exact ⟨xs[j]'(by omega),List.getElem_mem _,atI_nat (List.getElem?_eq_getElem (by omega))⟩
theorem rEqD_rows {K:PySem.W.Frag} {neg:Bool} {a b:Addr} {p:Pic} {H:Hp} {Q:VK} (ha:SqL K H a (rowsV p)) (hb:SqL K H b (rowsV p)) (q:Q (.bl (!neg)) H):rEqD K neg (.ref a) (.ref b) H Q:=by
 refine .inl ⟨(p.map tx).map Dt.str,by rw [deps_strs];omega,.inl ⟨?_,?_⟩,q⟩
 ·unfold RdD;exact ⟨a,_,rfl,ha,by rw [rowsV_strs];exact rd_strs⟩
 ·unfold RdD;exact ⟨b,_,rfl,hb,by rw [rowsV_strs];exact rd_strs⟩
theorem kit_int_bool (K:PySem.W.Frag):PySem.W.kitOne K (.type "int") (.type "bool")=some false:=by kernel_rfl
end QL
namespace L2
open PySem PySem.Spec PyProof.Rows
section
variable {X:Cx}
theorem call_lenL:CallR X (.builtin "len") (fun xs H Q=>∃ p ys,xs=[.ref p]∧SqL X.K H p ys∧Q (.int ys.length) H):=fun pins s σ H xs us Q I r ⟨p,ys,e,h,q⟩=>call_len_seq pins s σ H xs us Q I r ⟨p,ys,e,.inl h,q⟩
theorem call_lenT:CallR X (.builtin "len") (fun xs H Q=>∃ p ys,xs=[.ref p]∧SqT X.K H p ys∧Q (.int ys.length) H):=fun pins s σ H xs us Q I r ⟨p,ys,e,h,q⟩=>call_len_seq pins s σ H xs us Q I r ⟨p,ys,e,.inr h,q⟩
theorem comp_rev {K:PySem.W.Frag} {g:TG} {ti:TT} {te:TE} {σ:St} {H:Hp} {Q:List V→Hp→Prop} {a:Addr} {xs:List V} (Pv:Nat→List V→St→Hp→Prop) (h0:Pv 0 [] σ H) (hz:∀ i acc σ H,Pv i acc σ H→acc.length < sizeLine) (hi:∀ i acc σ H,Pv i acc σ H→i≤xs.length)
  (hl:∀ i acc σ H,Pv i acc σ H→SqL K H a xs)
  (hs:∀ i x acc σ H,xs.reverse[i]?=some x→Pv i acc σ H→g x σ H fun σ2 H3=>ti σ2 H3 fun b H4=>if b=true then te σ2 H4 fun v H5=>Pv (i + 1) (acc ++ [v]) σ2 H5 else Pv (i + 1) acc σ2 H4)
  (he:∀ acc σ H,Pv xs.length acc σ H→Q acc H):CompW (Itv K a xs.length) g ti te σ H Q:=by
 have rv:∀ {i:Nat} {x:V},i < xs.length→xs[xs.length - 1 - i]?=some x→xs.reverse[i]?=some x:=fun {i x} hi e=>by rw [List.getElem?_reverse hi];exact e
 exact comp_by (J:=Itv K a xs.length) (g:=g) (ti:=ti) (te:=te) (Q:=Q) (n:=xs.length) Pv h0 hz hi (fun acc σ H w=>rfl)
  (fun i acc σ H hlt w=>⟨xs,xs[xs.length - 1 - i]'(by omega),hl _ _ _ _ w,hlt,List.getElem?_eq_getElem (by omega)⟩) (fun i x acc σ H H2 hlt w y=>by obtain ⟨rfl,hx⟩:=y;exact hs i x acc σ H2 (rv hlt (hx xs (hl _ _ _ _ w))) w) he
theorem scal_ii (i j:Int):(scal (.int i) (.int j)=true)=True:=by simp [scal]
theorem scal_ss (i j:Str):(scal (.str i) (.str j)=true)=True:=by simp [scal]
theorem scal_bb (i j:Bool):(scal (.bl i) (.bl j)=true)=True:=by simp [scal]
theorem pt_tb {a:Expr} {ta:TE} (ha:PE X a ta) (he:∀ whole,isTrue a X.env whole=(do let v ← whole;standAt a.pos;holding [v] (truthy v))):PT X a (tTest ta):=by
 intro pins s σ H Q I h
 rw [he]
 refine wpAny_bind (thn (ha pins s σ H _ I h) fun v s1 ⟨x,H1,I1,r1,k,e,q⟩=>?_)
 subst e
 cases r1
 exact wpAny_bind (wpAny_standAt (wpAny_holding (wpAny_truthy_bool ⟨H1,I1,q⟩)))
def ForW (J:It) (g:TG) (tb:TS) (D:Ends) (σ:St) (H:Hp):Prop:=∃ W:Nat→Nat→St→Hp→Prop,(∃ m,W 0 m σ H)∧∀ i m σ H,W i m σ H →
 (J.stop i H∧D.nx σ H)∨(J.go i H∧∃ N:St→Hp→Prop,(∀ σ' H',N σ' H'→∃ m',m' < m∧W (i + 1) m' σ' H')∧∀ x H',J.yld i H x H'→g x σ H' fun σ2 H2=>tb { D with nx:=N,ct:=N,bk:=D.nx } σ2 H2)
def tForw (wi:TI) (g:TG) (tb:TS):TS:=fun D σ H=>wi σ H fun J H1=>ForW J g tb D σ H1
theorem ps_forw {tg iter:Expr} {body:List Stmt} {wi:TI} {g:TG} {tb:TS} {pos:Pos} (hp:PassesOwn (model X.prog X.w) X.A X.env X.xe) (hc:X.calm=true) (hi:PI X tg iter wi) (hg:PG X tg g) (hb:PSs X body tb)
  (hs:∀ x,foldedSetIterable iter X.env x=pure x:=by intro _;rfl):PS X (.For tg iter body [] pos) (tForw wi g tb):=ps_for hp hc hi hg hb hs
section
variable {K:PySem.W.Frag} {g:TG} {tb:TS} {D:Ends} {σ:St} {H:Hp}
theorem forw_list {a:Addr} {xs:List V} (Pv:Nat→St→Hp→Prop) (h0:Pv 0 σ H) (hl:∀ i σ H,i≤xs.length→Pv i σ H→SqL K H a xs)
  (hs:∀ i x σ H,xs[i]?=some x→Pv i σ H→g x σ H fun σ2 H2=>tb { D with nx:=Pv (i + 1),ct:=Pv (i + 1),bk:=D.nx } σ2 H2) (hd:∀ σ H,Pv xs.length σ H→D.nx σ H):ForW (Itl K a) g tb D σ H:=for_list Pv h0 hl hs hd
theorem forw_tup {a:Addr} {xs:List V} (Pv:Nat→St→Hp→Prop) (h0:Pv 0 σ H) (hl:∀ i σ H,i≤xs.length→Pv i σ H→SqT K H a xs)
  (hs:∀ i x σ H,xs[i]?=some x→Pv i σ H→g x σ H fun σ2 H2=>tb { D with nx:=Pv (i + 1),ct:=Pv (i + 1),bk:=D.nx } σ2 H2) (hd:∀ σ H,Pv xs.length σ H→D.nx σ H):ForW (Itt K a) g tb D σ H:=for_tup Pv h0 hl hs hd
theorem forw_range {lo:Int} {n:Nat} (Pv:Nat→St→Hp→Prop) (h0:Pv 0 σ H)
  (hs:∀ i σ H,i < n→Pv i σ H→g (.int (lo + i)) σ H fun σ2 H2=>tb { D with nx:=Pv (i + 1),ct:=Pv (i + 1),bk:=D.nx } σ2 H2) (hd:∀ σ H,Pv n σ H→D.nx σ H):ForW (Itr lo n) g tb D σ H:=for_range Pv h0 hs hd
end
end
theorem bt_len:bootBuiltins "len" = some (.builtin "len"):=by decide +kernel
theorem bt_list:bootBuiltins "list" = some (.type "list"):=by decide +kernel
theorem bt_tuple:bootBuiltins "tuple" = some (.type "tuple"):=by decide +kernel
theorem bt_int:bootBuiltins "int" = some (.type "int"):=by decide +kernel
theorem bt_bool:bootBuiltins "bool" = some (.type "bool"):=by decide +kernel
theorem bt_str:bootBuiltins "str" = some (.type "str"):=by decide +kernel
theorem bt_isinstance:bootBuiltins "isinstance" = some (.builtin "isinstance"):=by decide +kernel
theorem bt_all:bootBuiltins "all" = some (.builtin "all"):=by decide +kernel
end L2
set_option Elab.async false
set_option linter.all false
set_option maxRecDepth 100000
namespace PtM
open PySem PySem.Builtin.Str PySem.StrLaws
end PtM
set_option Elab.async false
set_option linter.all false
set_option maxRecDepth 100000
namespace L2
open PySem PySem.Spec PyProof.Rows
section
variable {X:Cx} {a b c d:Expr} {ta tb tc td:TE} {pos:Pos}
def rAll (K:PySem.W.Frag):List V→Hp→VK→Prop:=fun xs H Q=>∃ (p:Addr) (bs:List Bool),xs=[.ref p]∧SqL K H p (bs.map V.bl)∧Q (.bl (bs.all id)) H
theorem vals_bl:∀ {bs:List Bool} {us:List Value} {i:Nat} {u:Value},Vals (bs.map V.bl) us→us[i]?=some u→∃ k,bs[i]?=some k∧u=.bool k
 | [],_,_,_,.nil,e=>by simp at e
 | k :: bs,_,0,u,.cons r _,e=>by simp at e;subst e;exact ⟨k,rfl,r⟩
 | k :: bs,_,i + 1,u,.cons _ t,e=>by
  obtain ⟨k',h1,h2⟩:=vals_bl (i:=i) t (by simpa using e)
  exact ⟨k',by simpa using h1,h2⟩
theorem all_range (bs:List Bool):((List.range bs.length).all fun i=>(bs[i]?).getD true)=bs.all id:=by
 rw [Bool.eq_iff_iff,List.all_eq_true,List.all_eq_true]
 constructor
 ·intro h x hx
  obtain ⟨i,hi,e⟩:=List.getElem_of_mem hx
  have q:=h i (List.mem_range.mpr hi)
  rw [List.getElem?_eq_getElem hi,Option.getD_some,e] at q
  exact q
 ·intro h i hi
  have hi':=List.mem_range.mp hi
  rw [List.getElem?_eq_getElem hi',Option.getD_some]
  exact h _ (List.getElem_mem hi')
theorem call_all (hc:X.calm=true):CallR X (.builtin "all") (rAll X.K):=by
 intro pins s σ H xs us Q I r h
 obtain ⟨p,bs,rfl,hs,q⟩:=h
 obtain ⟨u,rfl,ru⟩:=r.one
 cases ru
 obtain ⟨its,rv,pl,_⟩:=I.list hs
 have hlt:p < s.heap.objs.size:=by obtain ⟨_,e,_⟩:=pl.isList;exact Heap.lt_size e
 have hlen:its.length=bs.length:=by rw [← rv.length,List.length_map]
 refine call_all_walk (wpAny_pyIter_list pl.isList ?_)
 refine ⟨s.heap.objs.size,[s.heap.objs.size,p],[s.heap.objs.size],its.toArray.size,_,_,fun i=>(bs[i]?).getD true,rfl,Walks.list (A:=X.A.in1) (I.ok.hd hc) _ p (Nat.ne_of_lt hlt) its.toArray,
  ⟨⟨_,Heap.get?_push_size _ rfl,rfl,rfl⟩,pl.isList.push _⟩,fun i v s' Q' E' hP hQ=>?_,fun h' tk hk=>?_⟩
 ·obtain ⟨k,e,rfl⟩:=vals_bl (i:=i) rv (by simpa using hP)
  dsimp only at hQ
  rw [e,Option.getD_some] at hQ
  exact wpAny_truthy_bool hQ
 ·have e:((List.range its.toArray.size).all fun i=>(bs[i]?).getD true)=bs.all id:=by rw [List.size_toArray,hlen];exact all_range bs
  rw [e]
  exact ⟨.bl _,H,I.kept (t':=tk) fun b o eo=>hk b o (fun hm=>by rw [List.mem_singleton.mp hm] at eo;exact Nat.lt_irrefl _ (Heap.lt_size eo)) (Heap.get?_push_of_some _ eo),rfl,q⟩
def tChain3 (r r' r'':R2) (ta tb tc td:TE):TE:=fun σ H Q=>ta σ H fun x H1=>tb σ H1 fun y H2=>r x y H2 fun z H3=>∃ k,z=.bl k ∧
 (if k=true then tc σ H3 fun u H4=>r' y u H4 fun z' H5=>∃ k',z'=.bl k'∧(if k'=true then td σ H5 fun v H6=>r'' u v H6 Q else Q (.bl false) H5) else Q (.bl false) H3)
end
section
variable {K:PySem.W.Frag} {g:TG} {ti:TT} {te:TE} {σ:St} {H:Hp} {Q:List V→Hp→Prop}
end
end L2
set_option Elab.async false
set_option linter.all false
set_option maxRecDepth 100000
namespace QL
open PySem L2 Pic PySem.Builtin PySem.Builtin.Str
end QL
namespace L2
open PySem PySem.Spec PyProof.Rows
section
variable {X:Cx} {K:PySem.W.Frag} {tg:Expr}
theorem call_isinstanceK (hK:X.K=K):CallR X (.builtin "isinstance") (rIsi K):=hK ▸ call_isinstance
theorem call_lenLK (hK:X.K=K):CallR X (.builtin "len") (fun xs H Q=>∃ p ys,xs=[.ref p]∧SqL K H p ys∧Q (.int ys.length) H):=hK ▸ call_lenL
theorem ix_listK (hK:X.K=K):IxR X (rIxL K):=hK ▸ ix_list
theorem ix_tupK (hK:X.K=K):IxR X (rIxT K):=hK ▸ ix_tup
theorem mt_joinK (hK:X.K=K):MtR X "str.join" (rJoin K):=hK ▸ mt_join
end
end L2
set_option Elab.async false
set_option linter.all false
set_option maxRecDepth 100000
namespace PySem
open Sem (wp)
def TrD (cp:Value→Prop) (h base:Heap) (e:Addr) (cls:Value) (od:Option Addr) (fl:Value):Prop:=
 ∃ oe vs T oT ts,h.get? e=some oe∧oe.cls=cls∧oe.dict=od∧oe.data=.fields vs∧vs[1]?=some (.ref T)∧base.get? T=none∧T≠e∧h.get? T=some oT∧oT.data=.fields ts∧ts[3]?=some fl∧∃ cx,vs[2]?=some cx∧cp cx
structure FlyC (cp:Value→Prop) (base:Heap) (l:List Env) (e:Addr) (cls:Value) (od:Option Addr) (fl:Value) (h:Heap):Prop where
 st:base.StaysIn h
 new:base.get? e=none
 ff:h.FunFrames base l
 tr:TrD cp h base e cls od fl
theorem FlyC.there {cp:Value→Prop} {base h:Heap} {l:List Env} {e:Addr} {cls fl:Value} {od:Option Addr} (x:FlyC cp base l e cls od fl h):∃ oe vs,h.get? e=some oe∧oe.cls=cls∧oe.dict=od∧oe.data=.fields vs:=by
 obtain ⟨oe,vs,_,_,_,a,b,c,d,_⟩:=x.tr
 exact ⟨oe,vs,a,b,c,d⟩
theorem dict_mapFields (o:Obj) (f:Array Value→Array Value):(Obj.mapFields f o).dict=o.dict:=by unfold Obj.mapFields;split <;> rfl
section
variable {cp:Value→Prop} {M:Model} {A:Around} {E:Value→Shared→Prop} {s:Shared} {base:Heap} {env:Env} {outer:List Env} {L e:Addr} {Q:Unit→Shared→Prop}
theorem flightD {cls fl:Value} {od:Option Addr} {l:List Env} (x:FlyC cp base l e cls od fl s.heap) (h:∀ h',FlyC cp base l e cls od .none h'→s.heap.UpToSlots h'→Q () { s with heap:=h' }):wpAny M A (setFlight (.ref e) none) Q E s:=by
 obtain ⟨oe,vs,T,oT,ts,he,hc,ho,hd,h1,hnT,hTe,hT,hdT,h3,hcx⟩:=x.tr
 have hsz:3 < ts.size:=(Array.getElem?_eq_some_iff.mp h3).1
 have oth:∀ b,b≠T→(s.heap.update T (Obj.mapFields (·.setIfInBounds 3 Value.none))).get? b=s.heap.get? b:=fun b hb=>Heap.get?_update_other _ _ (Ne.symm hb)
 have nrec:∀ b o,s.heap.get? b=some o→(∀ vs,o.data≠.fields vs)→b≠T:=fun b o hb hnf q=>by rw [q,hT] at hb;injection hb with hb;subst hb;exact hnf ts hdT
 unfold setFlight
 refine wpAny_bind (wpAny_field he hd h1 ?_)
 rw [if_pos (show (Value.ref T != Value.none)=true from by simp)]
 refine wpAny_setField hT hdT hsz (h _ ⟨fun b o hb=>(oth b fun q=>by rw [q,hnT] at hb;cases hb).trans (x.st b o hb),x.new,x.ff.of_keeps fun b o hb hnf=>⟨o,(oth b (nrec b o hb hnf)).trans hb,rfl⟩,?_⟩ fun b o hb hnf=>⟨o.slots,(oth b (nrec b o hb hnf)).trans hb⟩)
 exact ⟨oe,vs,T,_,_,(oth e (Ne.symm hTe)).trans he,hc,ho,hd,h1,hnT,hTe,Heap.get?_update_self _ hT (Obj.isFreed_of_fields (Obj.data_mapFields hdT _)),Obj.data_mapFields hdT _,by simp [hsz],hcx⟩
theorem entryD {oe:Obj} {vs:Array Value} {head:Value} {hadNext:Bool} (hfr:A.frames=some (env :: outer)) (hl:s.heap.FunFrames base (env :: outer)) (hf:env.frame=some L)
  (he:s.heap.get? e=some oe) (hkb:base.StaysIn s.heap) (hen:base.get? e=none) (hd:oe.data=.fields vs) (hsz:1 < vs.size) (hcx:∃ cx,vs[2]?=some cx∧cp cx)
  (h:∀ h',FlyC cp base (env :: outer) e oe.cls oe.dict (rawInt L) h'→s.heap.UpToSlots h'→Q () { s with heap:=h' }) :
  wpAny M A (do let a ← frameOf env;let pl ← entryPlaceOf L hadNext;let b ← EntryCells.newEntry head a .none (rawInt L) .none pl;setField (.ref e) 1 b) Q E s:=by
 have hene:e ∉ (env :: outer).filterMap (·.frame):=fun hm=>by
  obtain ⟨_,o,ho,hnf⟩:=hl.mem hm
  rw [he] at ho;injection ho with ho;subst ho;exact hnf vs hd
 refine wpAny_bind (wpAny_frameOf_fun hfr hl hf fun h₁ hs₁=>?_)
 refine wpAny_bind (wpAny_entryPlaceOf fun pl hpl=>?_)
 unfold EntryCells.newEntry newFields
 refine wpAny_bind (wpAny_newObj_type ?_ (hpl.sizeOk5 _ _ _ _ _))
 have he₁:h₁.get? e=some oe:=(hs₁.2.1 e hene).trans he
 have kb₁:base.StaysIn h₁:=fun b o hb=>(hs₁.2.1 b fun hm=>by rw [(hl.mem hm).1] at hb;cases hb).trans (hkb b o hb)
 generalize hT0:({ cls:=.type "traceback",dict:=none,data:=.fields ([head,.ref L,.none,rawInt L,.none] ++ (if pl.isEmpty then List.replicate 6 Value.none else pl)).toArray }:Obj)=To
 have dTo:To.data=.fields ([head,.ref L,.none,rawInt L,.none] ++ (if pl.isEmpty then List.replicate 6 Value.none else pl)).toArray:=by rw [← hT0]
 have he₂:=Heap.get?_push_of_some (h:=h₁) To he₁
 have hTe:h₁.objs.size≠e:=Nat.ne_of_gt (Heap.lt_size he₁)
 have keep:∀ b o,b≠e→h₁.get? b=some o→((h₁.push To).update e (Obj.mapFields (·.setIfInBounds 1 (Value.ref h₁.objs.size)))).get? b=some o:=fun b o hbe hb=>by
  rw [Heap.get?_update_other _ _ (Ne.symm hbe)]
  exact Heap.get?_push_of_some _ hb
 have nrec:∀ b o,s.heap.get? b=some o→(∀ vs,o.data≠.fields vs)→b≠e:=fun b o hb hnf q=>by
  rw [q,he] at hb
  injection hb with hb
  subst hb
  exact hnf vs hd
 refine wpAny_setField he₂ hd hsz (h _ ?_ ?_)
 ·have hd₃:=Obj.data_mapFields hd (·.setIfInBounds 1 (Value.ref h₁.objs.size))
  refine ⟨fun b o hb=>keep b o (fun q=>by rw [q,hen] at hb;cases hb) (kb₁ b o hb),hen,hl.of_keeps fun b o hb hnf=>?_,?_⟩
  ·obtain ⟨sl,hs⟩:=hs₁.2.2 b o hb
   exact ⟨_,keep b _ (nrec b o hb hnf) hs,rfl⟩
  ·refine ⟨_,_,h₁.objs.size,To,_,Heap.get?_update_self _ he₂ (Obj.isFreed_of_fields hd₃),Obj.cls_mapFields _ _,dict_mapFields _ _,hd₃,by simp [hsz],kb₁.fresh,hTe,?_,dTo,?_,?_⟩
   ·rw [Heap.get?_update_other _ _ (Ne.symm hTe)]
    refine Heap.get?_push_size _ ?_
    rw [← hT0];rfl
   ·first | (simp;done) | (rcases hpl with rfl | ⟨_,_,_,_,_,_,_,rfl⟩ <;> simp)
   ·obtain ⟨cx,h2,hp⟩:=hcx
    exact ⟨cx,by rw [Array.getElem?_setIfInBounds_ne (by decide)];exact h2,hp⟩
 ·intro b o hb hnf
  obtain ⟨sl,hs⟩:=hs₁.2.2 b o hb
  exact ⟨sl,keep b _ (nrec b o hb hnf) hs⟩
theorem noteD {cls:Value} {od:Option Addr} (hfr:A.frames=some (env :: outer)) (hf:env.frame=some L) (x:FlyC cp base (env :: outer) e cls od .none s.heap)
  (h:∀ h',FlyC cp base (env :: outer) e cls od (rawInt L) h'→s.heap.UpToSlots h'→Q () { s with heap:=h' }):wpAny M A (noteFrame (.ref e) env) Q E s:=by
 obtain ⟨oe,vs,T,oT,ts,he,hc,ho,hd,h1,hnT,hTe,hT,hdT,h3,hcx⟩:=x.tr
 subst hc ho
 unfold noteFrame
 simp only [hf]
 refine wpAny_bind (wpAny_field he hd h1 ?_)
 rw [if_pos (show (Value.ref T != Value.none)=true from by simp)]
 refine wpAny_bind (wpAny_field hT hdT h3 ?_)
 rw [if_neg (show ¬ ((Value.none == rawInt L)=true) from by simp [rawInt])]
 refine wpAny_bind (wpAny_setField hT hdT (Array.getElem?_eq_some_iff.mp h3).1 ?_)
 have oth:∀ b,b≠T→(s.heap.update T (Obj.mapFields (·.setIfInBounds 3 Value.none))).get? b=s.heap.get? b:=fun b hb=>Heap.get?_update_other _ _ (Ne.symm hb)
 have nrec:∀ b o,s.heap.get? b=some o→(∀ vs,o.data≠.fields vs)→b≠T:=fun b o hb hnf q=>by rw [q,hT] at hb;injection hb with hb;subst hb;exact hnf ts hdT
 refine entryD hfr (x.ff.of_keeps fun b o hb hnf=>⟨o,(oth b (nrec b o hb hnf)).trans hb,rfl⟩) hf ((oth e (Ne.symm hTe)).trans he) (fun b o hb=>(oth b fun q=>by rw [q,hnT] at hb;cases hb).trans (x.st b o hb)) x.new hd (Array.getElem?_eq_some_iff.mp h1).1 hcx fun h' y up=>h h' y fun b o hb hnf=>up b o ((oth b (nrec b o hb hnf)).trans hb) hnf
theorem noteD0 {oe:Obj} {vs:Array Value} (hfr:A.frames=some (env :: outer)) (hl:s.heap.FunFrames base (env :: outer)) (hf:env.frame=some L) (he:s.heap.get? e=some oe) (hkb:base.StaysIn s.heap) (hen:base.get? e=none) (hd:oe.data=.fields vs) (h1:vs[1]?=some .none) (hcx:∃ cx,vs[2]?=some cx∧cp cx)
  (h:∀ h',FlyC cp base (env :: outer) e oe.cls oe.dict (rawInt L) h'→s.heap.UpToSlots h'→Q () { s with heap:=h' }):wpAny M A (noteFrame (.ref e) env) Q E s:=by
 unfold noteFrame
 simp only [hf]
 refine wpAny_bind (wpAny_field he hd h1 ?_)
 rw [if_neg (by decide)]
 exact entryD hfr hl hf he hkb hen hd (Array.getElem?_eq_some_iff.mp h1).1 hcx h
theorem FlyC.drop {cls fl:Value} {od:Option Addr} {h:Heap} (x:FlyC cp base (env :: outer) e cls od fl h):FlyC cp base outer e cls od fl h:=⟨x.st,x.new,x.ff.2.2,x.tr⟩
theorem leaveD {cls:Value} {od:Option Addr} (hfr:A.frames=some (env :: outer)) (hf:env.frame=some L) (x:FlyC cp base (env :: outer) e cls od .none s.heap)
  (h:∀ h',FlyC cp base outer e cls od .none h'→s.heap.UpToSlots h'→Q () { s with heap:=h' }):wpAny M A (leaving env (.ref e)) Q E s:=by
 unfold leaving
 exact wpAny_bind (noteD hfr hf x fun h1 y1 u1=>flightD y1 fun h2 y2 u2=>h h2 y2.drop (u1.trans u2))
theorem leaveD0 {oe:Obj} {vs:Array Value} (hfr:A.frames=some (env :: outer)) (hl:s.heap.FunFrames base (env :: outer)) (hf:env.frame=some L) (he:s.heap.get? e=some oe) (hkb:base.StaysIn s.heap) (hen:base.get? e=none) (hd:oe.data=.fields vs) (h1:vs[1]?=some .none) (hcx:∃ cx,vs[2]?=some cx∧cp cx)
  (h:∀ h',FlyC cp base outer e oe.cls oe.dict .none h'→s.heap.UpToSlots h'→Q () { s with heap:=h' }):wpAny M A (leaving env (.ref e)) Q E s:=by
 unfold leaving
 exact wpAny_bind (noteD0 hfr hl hf he hkb hen hd h1 hcx fun h1 y1 u1=>flightD y1 fun h2 y2 u2=>h h2 y2.drop (u1.trans u2))
end
end PySem
set_option Elab.async false
set_option linter.all false
set_option maxRecDepth 100000
namespace L2
open PySem PySem.Spec PyProof.Rows
structure Fly0 (P:Program) (w:World) (outer:List Env) (H:Hp) (s:Shared) (B:Heap) (H':Hp) (s':Shared):Prop where
 st:B.StaysIn s'.heap
 ff:s'.heap.FunFrames B outer
 un:Un (frs outer) [] H H' s.heap s'.heap
 hok:HOk P w H' s'.heap
 cov:∀ b o,H' b=some o→∃ ob,B.get? b=some ob
 old:∀ b o,s.heap.get? b=some o→b ∉ frs outer→∃ o',B.get? b=some o'
 os:s'.os=s.os
 bare:AllBare s'.gens
structure FlyX (cp:Value→Prop) (P:Program) (w:World) (outer:List Env) (H:Hp) (s:Shared) (B:Heap) (H':Hp) (s':Shared) (ea:Addr) (cls:Value) (od:Option Addr):Prop extends Fly0 P w outer H s B H' s' where
 fl:FlyC cp B outer ea cls od .none s'.heap
def CXp (cp:Value→Prop) (P:Program) (w:World):CXT:=fun outer H s E e s'=>∃ ea cls od B H',e=.ref ea∧FlyX cp P w outer H s B H' s' ea cls od∧H' ea=none∧E cls od H'
abbrev CX1 (P:Program) (w:World):CXT:=CXp (fun v=>v=.none) P w
theorem passes_E0 {cp:Value→Prop} {P:Program} {w:World} {X:Cx}:Passes (CXp cp P w) X (fun _ _ _=>False):=fun _ _ _ _ _ _ _ h=>by
 obtain ⟨_,_,_,_,_,_,_,_,f⟩:=h
 exact f.elim
theorem hok_stays {P:Program} {w:World} {H:Hp} {B h h':Heap} (ok:HOk P w H h) (cov:∀ b o,H b=some o→∃ ob,B.get? b=some ob) (k:B.StaysIn h) (k':B.StaysIn h'):HOk P w H h':=fun a o e=>
 (ok a o e).stay (fun b u hb q=>by
  have hb':∃ ob,B.get? b=some ob:=by
   rcases hb with rfl | hb
   ·exact cov _ _ e
   ·exact cov _ _ hb
  obtain ⟨ob,hB⟩:=hb'
  have:=k b ob hB
  rw [q] at this
  cases this
  exact k' b _ hB) (fun _ q=>q) fun _ _ q=>q
theorem ObjOk.there {P:Program} {w:World} {H:Hp} {h:Heap} {a:Addr} {o:HO} (x:ObjOk P w H h a o):∃ ob,h.get? a=some ob:=by
 cases o with
 | lst xs=>obtain ⟨_,_,_,_,e⟩:=x;exact ⟨_,e⟩
 | tup xs=>obtain ⟨_,_,_,ob,e,_⟩:=x;exact ⟨_,e⟩
 | dK kvs=>obtain ⟨_,_,_,_,o,_,_,e,_⟩:=x;exact ⟨_,e⟩
 | dT kvs=>obtain ⟨_,_,_,_,o,_,_,e,_⟩:=x;exact ⟨_,e⟩
 | set S n=>obtain ⟨o,_,_,_,e,_⟩:=x;exact ⟨_,e⟩
 | ins C dx fs=>obtain ⟨_,_,_,e,_⟩:=x;exact ⟨_,e⟩
 | own y=>exact x
 | xd fs=>obtain ⟨_,⟨_,_,_,e,_⟩,_⟩:=x;exact ⟨_,e⟩
 | rng lo hi=>obtain ⟨_,_,_,e⟩:=x;exact ⟨_,e⟩
 | frz ob u=>obtain ⟨e,_⟩:=x;exact ⟨_,e⟩
 | tbl ps=>exact ⟨_,show h.get? a=some _ from x⟩
 | met f y=>exact ⟨_,show h.get? a=some _ from x⟩
 | ext φ=>obtain ⟨_,e,_⟩:=x;exact e
section
variable {P:Program} {w:World} {K:PySem.W.Frag} {mg:Str→Option Value} {base:Heap} {N:List Str} {qual:Str} {scope:Scope} {f:Addr} {cd:Value} {A:Around} {outer:List Env} {s:Shared} {H:Hp} {E E1:XK} {CX:CXT}
theorem Fly0.up {cp:Value→Prop} {X:Cx} {pins:List (Addr × Obj)} {σ:St} {H1 H':Hp} {s1 s':Shared} {B h':Heap} {ea:Addr} {cls:Value} {od:Option Addr} (I:Inv X pins σ H1 s1) (hex:X.ex=[]) (hst:X.stack=X.env :: X.outer) (hfr:X.env.frame=some X.env.locals) (hP:X.prog=P) (hw:X.w=w)
  (x:Fly0 P w X.stack H1 s1 B H' s') (fl2:FlyC cp B X.outer ea cls od .none h') (up:s'.heap.UpToSlots h') :
  FlyX cp P w X.outer X.H₀ X.s₀ B H' { s' with heap:=h' } ea cls od:=by
 have nex:∀ b,b ∉ X.ex:=fun b=>by rw [hex];simp
 have nfr:∀ b o,X.s₀.heap.get? b=some o→b ∉ X.fs→b ∉ frs X.stack:=fun b o e hb hm=>by
  rw [hst] at hm
  unfold frs at hm
  rw [List.filterMap_cons,hfr] at hm
  rcases List.mem_cons.mp hm with z | z
  ·exact absurd (Heap.lt_size e) (by rw [z];exact Nat.not_lt.mpr I.ok.above)
  ·exact hb z
 have sub:∀ b,b∈X.fs→b∈frs X.stack:=fun b hb=>by
  rw [hst]
  unfold frs
  rw [List.filterMap_cons,hfr]
  exact List.mem_cons_of_mem _ hb
 have kB:∀ b o,X.s₀.heap.get? b=some o→b ∉ X.fs→∃ o',B.get? b=some o':=fun b o e hb=>by
  obtain ⟨o1,e1⟩:=I.base.there b o e (nex b)
  exact x.old b o1 e1 (nfr b o e hb)
 have fr0:∀ b∈X.fs,X.H₀ b=none:=I.ok.frf
 have sl:∀ b o,X.s₀.heap.get? b=some o→X.H₀ b=none→b∈X.fs→∃ sl,h'.get? b=some { o with slots:=sl }:=fun b o e hn hb=>by
  obtain ⟨sl1,e1⟩:=I.base.slot b o e hn hb (nex b)
  have n1:=I.base.free b o e hn (nex b)
  obtain ⟨sl2,e2⟩:=x.un.slot b _ e1 n1 (sub b hb) (by simp)
  obtain ⟨_,o3,e3,nf⟩:=x.ff.mem (sub b hb)
  rw [e2] at e3
  cases e3
  obtain ⟨sl3,e4⟩:=up b _ e2 nf
  exact ⟨sl3,e4⟩
 refine ⟨⟨fl2.st,fl2.ff,⟨fun b o e hn hb _=>?_,fun b o e hn hb _=>sl b o e hn hb,fun b o e hn _=>?_,fun b o e _=>?_,fun b xs q=>x.un.tups b xs (I.base.tups b xs q),fun b o u q=>x.un.frzs b o u (I.base.frzs b o u q),fun b ps q=>?_⟩,hok_stays x.hok x.cov x.st fl2.st,x.cov,kB,x.os.trans I.os,x.bare⟩,fl2⟩
 ·have e1:=I.base.keep b o e hn hb (nex b)
  have n1:=I.base.free b o e hn (nex b)
  have e2:=x.un.keep b o e1 n1 (nfr b o e hb) (by simp)
  obtain ⟨o',eB⟩:=kB b o e hb
  have:=x.st b o' eB
  rw [e2] at this
  cases this
  exact fl2.st b _ eB
 ·obtain ⟨o1,e1⟩:=I.base.there b o e (nex b)
  exact x.un.free b o1 e1 (I.base.free b o e hn (nex b)) (by simp)
 ·by_cases hb:b∈X.fs
  ·obtain ⟨z,ez⟩:=sl b o e (fr0 b hb) hb
   exact ⟨_,ez⟩
  ·obtain ⟨o',eB⟩:=kB b o e hb
   exact ⟨_,fl2.st b _ eB⟩
 ·obtain ⟨m1,e1⟩:=I.base.tbls b ps q
  obtain ⟨m2,e2⟩:=x.un.tbls b _ e1
  exact ⟨m1 ++ m2,by rw [e2,Array.append_assoc]⟩
theorem passes_up {cp:Value→Prop} (hE:∀ c d H',E1 c d H'→E c d H'):Passes (CXp cp P w) (cxOf (CXp cp P w) P w K mg base N qual scope f cd A outer s H E) E1:=by
 intro pins σ H1 s1 e s' I x
 obtain ⟨ea,cls,od,B,H',rfl,fly,hn,q⟩:=x
 refine leaveD I.ok.frames rfl fly.fl fun h' fl2 up=>?_
 exact ⟨ea,cls,od,B,H',rfl,Fly0.up I rfl rfl rfl rfl rfl fly.toFly0 fl2 up,hn,hE _ _ _ q⟩
def Makes (X:Cx) (E:XK):Prop:=∀ (pins:List (Addr × Obj)) (σ:St) (H:Hp) (s:Shared) (h':Heap) (e:Addr) (cls:Value) (vs:List Value),Inv X pins σ H s→Heap.MadeExcOf s.heap h' e cls vs→E cls none H→X.xe (.ref e) { s with heap:=h' }
theorem makes_up (hE:∀ c d H',E1 c d H'→E c d H'):Makes (cxOf (CX1 P w) P w K mg base N qual scope f cd A outer s H E) E1:=by
 intro pins σ H1 s1 h1 e cls vs I x q
 have hin:∀ env∈(cxOf (CX1 P w) P w K mg base N qual scope f cd A outer s H E).stack,∀ b,env.frame=some b→b∈frs (cxOf (CX1 P w) P w K mg base N qual scope f cd A outer s H E).stack:=fun env he b hb=>List.mem_filterMap.mpr ⟨env,he,hb⟩
 obtain ⟨t0,he0,ht0,htt⟩:=x.there
 have nt:∀ b,s1.heap.get? b=none→H1 b=none:=fun b hb=>by
  cases z:H1 b with
  | none=>rfl
  | some o=>
   obtain ⟨ob,hob⟩:=(I.hok b o z).there
   rw [hb] at hob
   cases hob
 have hff:=PySem.W.funFrames_hide I.stack hin
 have fly0:Fly0 P w (cxOf (CX1 P w) P w K mg base N qual scope f cd A outer s H E).stack H1 s1 (PySem.W.hideAll s1.heap (frs (cxOf (CX1 P w) P w K mg base N qual scope f cd A outer s H E).stack)) H1 { s1 with heap:=h1 }:=
  ⟨fun b o e=>x.keeps b o (PySem.W.of_hideAll _ e),hff.of_keeps fun b o e _=>⟨o,x.keeps b o e,rfl⟩,Un.kept x.keeps,I.hok.kept x.keeps,fun b o z=>by
   obtain ⟨ob,hob⟩:=(I.hok b o z).there
   exact ⟨ob,PySem.W.hideAll_get _ hob fun hm=>by rw [I.stkFree b hm] at z;cases z⟩,fun b o e hm=>⟨o,PySem.W.hideAll_get _ e hm⟩,rfl,I.bare⟩
 have newB:(PySem.W.hideAll s1.heap (frs (cxOf (CX1 P w) P w K mg base N qual scope f cd A outer s H E).stack)).get? e=none:=by
  cases z:(PySem.W.hideAll s1.heap (frs (cxOf (CX1 P w) P w K mg base N qual scope f cd A outer s H E).stack)).get? e with
  | none=>rfl
  | some o=>have:=PySem.W.of_hideAll _ z;rw [x.new] at this;cases this
 refine leaveD0 (cp:=fun v=>v=.none) (s:={ s1 with heap:=h1 }) I.ok.frames fly0.ff rfl he0 fly0.st newB rfl rfl ⟨_,rfl,rfl⟩ fun h' fl2 up=>?_
 exact ⟨e,cls,none,_,H1,rfl,Fly0.up I rfl rfl rfl rfl rfl fly0 fl2 up,nt e x.new,hE _ _ _ q⟩
end
end L2
set_option Elab.async false
set_option linter.all false
set_option maxRecDepth 100000
namespace L2
open PySem PySem.Spec PyProof.Rows
structure XCls (K:PySem.W.Frag) (C:Addr) (bmB:List Value) (newId:String):Prop where
 exc:PySem.W.excIn K C bmB newId=true
theorem XCls.obj {K:PySem.W.Frag} {C:Addr} {bmB:List Value} {newId:String} {h:Heap} (c:XCls K C bmB newId) (X:K.In h):∃ bm N nm q bs hdct sn sub ab col dd k0 k1 k2 k3 k5 mN,
  h.get? C=some (excClassObj nm q C N bs bm hdct sn sub ab col dd k0 k1 k2 k3 k5 newId)∧h.Ns N mN∧mN "__init__" = none∧OwnTail h bmB bm∧∃ dd' cd sl,K.lookup C=some ⟨.type "type",dd',.cls cd,sl⟩∧cd.mro=.ref C :: bm:=by
 have q:=c.exc
 unfold PySem.W.excIn at q
 cases hl:K.lookup C with
 | none=>rw [hl] at q;cases q
 | some ob=>
  rw [hl] at q
  split at q
  ·rename_i dd cd sl e
   cases e
   split at q
   ·rename_i C' bm k0 k1 k2 k3 n k5 hm hs
    simp only [Bool.and_eq_true,beq_iff_eq,Bool.not_eq_true'] at q
    obtain ⟨⟨⟨⟨⟨rfl,rfl⟩,hdel⟩,ht⟩,hok⟩,hni⟩:=q
    have ho:=X _ _ hl
    have hsl:sl=#[k0,k1,k2,k3,some (.builtin n),k5]:=Array.toList_inj.mp hs
    subst hsl
    obtain ⟨nm,bs,mro,ns,qn,hd,sn,sub,ab,col,del⟩:=cd
    dsimp only at hm hdel hok hni ho
    subst hm hdel
    exact ⟨bm,ns,nm,qn,bs,hd,sn,sub,ab,col,dd,k0,k1,k2,k3,k5,_,ho,.of_isNs (PySem.W.isNs_of_in X hok),PySem.W.nsMap_none_of_in X hok hni,PySem.W.tail_of_in X ht,dd,_,_,rfl,rfl⟩
   ·cases q
  ·cases q
section
variable {X:Cx} {x:Str} {np cpos pos:Pos} {e₀:Expr} {rest:List Expr} {t:TA} {C:Addr} {B Bn newId nid initId inN:String} {bm bmN:List Value} {E:XK}
def tRaise (C:Addr) (E:XK) (t:TA):TS:=fun _ σ H=>t σ H fun vs H1=>vs.length≤sizeLine∧E (.ref C) none H1
theorem ps_raise (c:XCls X.K C bm newId) (Fn:ExcBaseFacts Bn newId inN bmN) (hBn:bm.contains (.type Bn)=true) (FB:ExcBaseFacts B nid initId bm) (hc:X.calm=true) (hg:Gl X x) (hm:X.mg x=some (.ref C)) (hx:Makes X E) (ha:PA X (e₀ :: rest) t)
  (hd:(x == ("__debug__":Str))=false:=by decide +kernel)
  (he:starEach (e₀ :: rest) X.env=(false,eval e₀ X.env) :: starEach rest X.env:=by rfl) (hpl:(backTo cpos (starEach rest X.env)).any (·.1)=false:=by rfl) :
  PS X (.Raise (some (.Call (.Name x np) (e₀ :: rest) [] cpos)) none pos) (tRaise C E t):=by
 intro pins s σ H D I h
 obtain ⟨tl,N,nm,q,bs,hdct,sn,sub,ab,col,dd,k0,k1,k2,k3,k5,mN,hC,hN,hni,T,_⟩:=c.obj I.mod.kin
 refine wpAny_Raise_call_subU (C:=C) (nm:=nm) (q:=q) (N:=N) (bs:=bs) (bm:=tl) (hdct:=hdct) (sn:=sn) (sub:=sub) (ab:=ab) (col:=col) (dd:=dd) (k0:=k0) (k1:=k1) (k2:=k2) (k3:=k3) (k5:=k5)
  Fn hBn FB (mN:=mN) (T.hasType FB.hasBase) (I.ok.hd hc) (by rw [he];show (false || (backTo cpos (starEach rest X.env)).any (·.1))=false;rw [hpl];rfl) hni (ld_glob I hg hm ⟨rfl,?_⟩ hd)
 rw [he]
 have ha':=ha cpos pins s σ H _ I h
 rw [he] at ha'
 exact Calls.evalArgs_plain (wpAny_mono ha' (fun us s₂ ⟨vs,H1,I1,r1,z,q1⟩=>⟨rfl,by rw [← r1.length];exact z,I1.bk _ _ hC,hN.keeps I1.bk,T.keeps I1.bk,fun h' e hx'=>hx pins σ H1 s₂ h' e _ _ I1 hx' q1⟩) fun _ _ y=>y)
end
abbrev TX:=St→Hp→VK→XK→Prop
section
variable {X:Cx} {CX:CXT} {k:Nat} {ps:List Str} {sp:Sp} {x:Str} {p pos:Pos} {e:Expr} {es:List Expr} {t:TA}
def tCallX (sp:Sp) (t:TA):TX:=fun σ H Q E=>t σ H fun vs H1=>sp vs H1 Q E
end
theorem Fly0.un2 {P:Program} {w:World} {outer:List Env} {H H':Hp} {s s':Shared} {B h6:Heap} (x:Fly0 P w outer H s B H' s') (k6:B.StaysIn h6) (up:s'.heap.UpToSlots h6) (fr0:∀ b∈frs outer,H b=none):Un (frs outer) [] H H' s.heap h6:=by
 have sl:∀ b o,s.heap.get? b=some o→H b=none→b∈frs outer→∃ sl,h6.get? b=some { o with slots:=sl }:=fun b o e hn hb=>by
  obtain ⟨sl2,e2⟩:=x.un.slot b _ e hn hb (by simp)
  obtain ⟨_,o3,e3,nf⟩:=x.ff.mem hb
  rw [e2] at e3
  cases e3
  obtain ⟨sl3,e4⟩:=up b _ e2 nf
  exact ⟨sl3,e4⟩
 refine ⟨fun b o e hn hb _=>?_,fun b o e hn hb _=>sl b o e hn hb,fun b o e hn _=>x.un.free b o e hn (by simp),fun b o e _=>?_,x.un.tups,x.un.frzs,x.un.tbls⟩
 ·obtain ⟨o',eB⟩:=x.old b o e hb
  have:=x.st b o' eB
  rw [x.un.keep b o e hn hb (by simp)] at this
  cases this
  exact k6 b _ eB
 ·by_cases hb:b∈frs outer
  ·obtain ⟨z,ez⟩:=sl b o e (fr0 b hb) hb
   exact ⟨_,ez⟩
  ·obtain ⟨o',eB⟩:=x.old b o e hb
   exact ⟨_,k6 b _ eB⟩
def ExcAt (ea:Addr) (cls:Value) (od:Option Addr) (h:Heap):Prop:=∃ o vs,h.get? ea=some o∧o.cls=cls∧o.dict=od∧o.data=.fields vs
abbrev xo (ea:Addr) (cls:Value) (od:Option Addr):HO:=.ext (ExcAt ea cls od)
theorem Inv.caught {cp:Value→Prop} {X:Cx} {pins:List (Addr × Obj)} {σ:St} {H H':Hp} {s s':Shared} {B h6:Heap} {ea:Addr} {cls:Value} {od:Option Addr} (I:Inv X pins σ H s) (x:Fly0 X.prog X.w X.stack H s B H' s') (fl:FlyC cp B X.stack ea cls od .none h6) (up:s'.heap.UpToSlots h6) (hn:H' ea=none) :
  Inv X pins σ (upd H' ea (xo ea cls od)) { s' with heap:=h6 }:=by
 obtain ⟨oe,vs,he,hc,hod,hd⟩:=fl.there
 have newB:B.get? ea=none:=fl.new
 have nfr:ea ∉ frs X.stack:=fun hm=>by
  obtain ⟨_,o,ho,nf⟩:=fl.ff.mem hm
  rw [he] at ho
  cases ho
  exact nf _ hd
 have nold:s.heap.get? ea=none:=by
  cases z:s.heap.get? ea with
  | none=>rfl
  | some o=>
   obtain ⟨o',eB⟩:=x.old ea o z nfr
   rw [newB] at eB
   cases eB
 have u:=x.un2 fl.st up I.stkFree
 have ok6:=hok_stays x.hok x.cov x.st fl.st
 have nq:∀ b o,H' b=some o→b≠ea:=fun b o e z=>by rw [z,hn] at e;cases e
 refine I.call' (ch:=[]) x.os ⟨u.keep,u.slot,fun b o e n hx=>?_,u.there,fun b xs q=>?_,fun b o y q=>?_,fun b qs q=>?_⟩ (fun b o e=>?_) x.bare (fun b z=>absurd z (by simp))
 ·have nb:b≠ea:=fun z=>by rw [z,nold] at e;cases e
  rw [upd_ne nb]
  exact u.free b o e n hx
 ·have q':=u.tups b xs q
  rw [upd_ne (nq _ _ q')]
  exact q'
 ·have q':=u.frzs b o y q
  rw [upd_ne (nq _ _ q')]
  exact q'
 ·obtain ⟨more,q'⟩:=u.tbls b qs q
  exact ⟨more,by rw [upd_ne (nq _ _ q')];exact q'⟩
 ·by_cases hb:b=ea
  ·subst hb
   rw [upd_same] at e
   cases e
   exact ⟨⟨oe,vs,he,hc,hod,hd⟩,⟨oe,he⟩,fun h1 h2 ⟨o,ws,e1,e2,e3,e4⟩ k=>⟨o,ws,k o e1,e2,e3,e4⟩⟩
  ·rw [upd_ne hb] at e
   exact (ok6 b o e).stay (fun _ _ _ q=>q) (fun c q=>by rw [upd_ne (nq _ _ q)];exact q) fun c xs q=>by rw [upd_ne (nq _ _ q)];exact q
end L2
set_option Elab.async false
set_option linter.all false
set_option maxRecDepth 100000
namespace PySem
open Sem (wp)
section
variable {M:Model} {A:Around} {E:Value→Shared→Prop}
variable {nm q nm' q':Str} {C N D N':Addr} {bs bm bs' bm':List Value} {hdct hdct':Bool} {sn sn':List Str} {sub sub':List Value} {ab ab':Bool} {col col':Option Bool} {dd dd':Option Addr} {k0 k1 k2 k3 k5 k0' k1' k2' k3' k5':Option Value} {newId newId':String}
end
end PySem
namespace L2
open PySem PySem.Spec PyProof.Rows
section
variable {X:Cx} {pins:List (Addr × Obj)} {σ:St} {H:Hp} {s:Shared}
abbrev Cx.held (X:Cx) (ea:Addr):Cx:={ X with A:=X.A.mark (some (.ref ea)),calm:=false,xe:=fun _ _=>False }
theorem Inv.held (I:Inv X pins σ H s) (ea:Addr):Inv (X.held ea) pins σ H s:=
 ⟨⟨I.ok.mod,I.ok.kind,I.ok.glob,I.ok.blt,I.ok.above,I.ok.inj,I.ok.has,I.ok.cab,(fun z=>by cases z),I.ok.frames,I.ok.stk,I.ok.exf,I.ok.bs,I.ok.bsz,I.ok.noex,I.ok.exfs,I.ok.funs,I.ok.frf⟩,I.os,I.bare,I.base,I.loc,I.cell,I.free,I.freeC,I.pin,I.hok,I.len⟩
end
def Under (K:PySem.W.Frag) (C D:Addr):Prop:=∃ dd cd sl,K.lookup C=some ⟨.type "type",dd,.cls cd,sl⟩∧cd.mro.contains (.ref D)=true
section
variable {X:Cx} {P:Program} {w:World} {e tg:Expr} {tx:TX} {g:TG} {i:Nat} {n x:Str} {D:Addr} {bmD:List Value} {nD:String} {b₀:Stmt} {suite:List Stmt} {apos pos hpos np:Pos} {ts:Addr→TS}
def tTryAs (K:PySem.W.Frag) (D:Addr) (tx:TX) (g:TG) (i:Nat) (ts:Addr→TS):TS:=fun De σ H=>
 tx σ H (fun v H1=>g v σ H1 De.nx) (fun cls od H'=>∃ C bm nid,cls=.ref C∧XCls K C bm nid∧Under K C D∧∀ ea,H' ea=none →
  ts ea { nx:=fun σ2 H2=>De.nx (σ2.set i none) H2,rt:=De.rt,bk:=fun σ2 H2=>De.bk (σ2.set i none) H2,ct:=fun σ2 H2=>De.ct (σ2.set i none) H2 } (σ.set i (some (.ref ea))) (upd H' ea (xo ea (.ref C) od)))
end
end L2
set_option Elab.async false
set_option linter.all false
set_option maxRecDepth 100000
namespace L2
open PySem PySem.Spec PyProof.Rows
section
variable {X:Cx} {pins:List (Addr × Obj)} {σ:St} {H:Hp} {s:Shared}
theorem Inv.moved {ch:List Addr} {h':Heap} {tk:Nat} (I:Inv X pins σ H s) (hf:∀ b∈ch,FpOk X pins H b) (k:∀ b o,b ∉ ch→s.heap.get? b=some o→h'.get? b=some o):Inv X pins σ H { s with heap:=h',toks:=tk }:=by
 have nH:∀ b o,H b=some o→b ∉ ch:=fun b o e z=>by rw [(hf b z).1] at e;cases e
 refine I.call' (s':={ s with heap:=h',toks:=tk }) (ch:=ch) rfl ⟨fun b o e _ _ hc=>k b o hc e,fun b o e _ _ hc=>⟨o.slots,k b o hc e⟩,fun b o e n hc=>n,fun b o e hc=>⟨o,k b o hc e⟩,fun b xs q=>q,fun b o y q=>q,fun b qs q=>⟨#[],by rw [q];simp⟩⟩
  (fun b o e=>(I.hok b o e).stay (fun c u hc q=>k c u (by
   rcases hc with rfl | hc
   ·exact nH _ _ e
   ·exact nH _ _ hc) q) (fun _ q=>q) fun _ _ q=>q) I.bare fun b hb=>?_
 obtain ⟨f0,f1,f2,f3,f4,f5⟩:=hf b hb
 exact ⟨f3,f1,f4,f5⟩
theorem Inv.movedT {ch:List Addr} {h':Heap} {tk:Nat} {T:Addr} {ob:HO} (I:Inv X pins σ H s) (hf:∀ b∈ch,FpOk X pins H b) (k:∀ b o,b ∉ ch→s.heap.get? b=some o→h'.get? b=some o) (hT:s.heap.objs.size≤T) (new:ObjOk X.prog X.w (upd H T ob) h' T ob) :
  Inv X pins σ (upd H T ob) { s with heap:=h',toks:=tk }:=by
 have nH:∀ b o,H b=some o→b ∉ ch:=fun b o e z=>by rw [(hf b z).1] at e;cases e
 have hn:H T=none:=I.hok.fresh hT
 have nT:∀ b o,s.heap.get? b=some o→b≠T:=fun b o e z=>by rw [z] at e;exact absurd (Heap.lt_size e) (Nat.not_lt.mpr hT)
 refine I.call' (s':={ s with heap:=h',toks:=tk }) (ch:=ch) rfl ⟨fun b o e _ _ hc=>k b o hc e,fun b o e _ _ hc=>⟨o.slots,k b o hc e⟩,fun b o e n hc=>by rw [upd_ne (nT b o e)];exact n,fun b o e hc=>⟨o,k b o hc e⟩,fun b xs q=>by rw [upd_ne (ne_of_none q hn)];exact q,fun b o y q=>by rw [upd_ne (ne_of_none q hn)];exact q,fun b qs q=>⟨#[],by rw [upd_ne (ne_of_none q hn),q];simp⟩⟩
  (fun b o e=>?_) I.bare fun b hb=>?_
 ·by_cases hb:b=T
  ·subst hb
   rw [upd_same] at e
   cases e
   exact new
  ·rw [upd_ne hb] at e
   exact (I.hok b o e).stay (fun c u hc q=>k c u (by
    rcases hc with rfl | hc
    ·exact nH _ _ e
    ·exact nH _ _ hc) q) (fun c q=>by rw [upd_ne (ne_of_none q hn)];exact q) fun c xs q=>by rw [upd_ne (ne_of_none q hn)];exact q
 ·obtain ⟨f0,f1,f2,f3,f4,f5⟩:=hf b hb
  exact ⟨f3,f1,f4,f5⟩
end
def Itz (K:PySem.W.Frag) (a b:Addr):It:=
 ⟨fun i H=>∃ xs ys x y,SqL K H a xs∧SqL K H b ys∧xs[i]?=some x∧ys[i]?=some y,fun i H v H'=>∃ T x y,v=.ref T∧H T=none∧H'=upd H T (.tup [x,y])∧(∀ xs,SqL K H a xs→xs[i]?=some x)∧∀ ys,SqL K H b ys→ys[i]?=some y,
  fun i H=>∃ xs ys,SqL K H a xs∧SqL K H b ys∧(xs.length≤i∨ys.length≤i)⟩
theorem turn_zip {P:Program} {w:World} {K:PySem.W.Frag} {elts:List Expr} {x1:Nat} {tp:Pos} {z TI TO i1 i2 l1 l2:Addr} (D:ZipApart z TI TO i1 i2 l1 l2) :
  Turn P w K (.Tuple elts x1 tp) (Itz K l1 l2) [z,TI,TO,i1,i2] z (fun i h=>IsZip h z TI TO .none∧IsPair h TI (.ref i1) (.ref i2)∧(∃ a b,IsPair h TO a b)∧h.IsListIter i1 l1 i∧h.IsListIter i2 l2 i) where
 mem:=by simp
 obj:=fun i h st b hb=>by
  obtain ⟨hz,hTI,⟨a,c,hTO⟩,⟨o1,e1,c1,d1⟩,⟨o2,e2,c2,d2⟩⟩:=st
  simp only [List.mem_cons,List.not_mem_nil,or_false] at hb
  rcases hb with rfl | rfl | rfl | rfl | rfl
  ·exact ⟨_,hz,fun v q=>by cases q⟩
  ·exact ⟨_,hTI,fun v q=>by cases q⟩
  ·exact ⟨_,hTO,fun v q=>by cases q⟩
  ·exact ⟨_,e1,fun v q=>by rw [d1] at q;cases q⟩
  ·exact ⟨_,e2,fun v q=>by rw [d2] at q;cases q⟩
 keep:=fun i h h' st hk=>by
  obtain ⟨hz,hTI,⟨a,b,hTO⟩,h1,h2⟩:=st
  exact ⟨hk z (by simp) _ hz,hk TI (by simp) _ hTI,⟨a,b,hk TO (by simp) _ hTO⟩,h1.at fun o e=>hk i1 (by simp) o e,h2.at fun o e=>hk i2 (by simp) o e⟩
 item:=by
  intro X hP hw hK hc i pins s σ H E I hf st hg
  subst hP hw hK
  obtain ⟨xs,ys,x,y,hq1,hq2,hx,hy⟩:=hg
  obtain ⟨its1,rv1,p1,hz1⟩:=I.list hq1
  obtain ⟨its2,rv2,p2,hz2⟩:=I.list hq2
  obtain ⟨u1,hu1,ru1⟩:=rv1.get hx
  obtain ⟨u2,hu2,ru2⟩:=rv2.get hy
  obtain ⟨hz,hTI,⟨a,b,hTO⟩,h1,h2⟩:=st
  refine wpAny_pyNext_zip_item D hz hTI hTO h1 h2 p1.isList p2.isList (x:=u1) (y:=u2) (by simpa using hu1) (by simpa using hu2) fun h' a1 a2 a3 a4 a5 a6 hk=>?_
  refine ⟨_,rfl,wpAny_letOwnedTupleGo_zip a1 fun h2' hz' hs'=>?_⟩
  have hfree:H s.heap.objs.size=none:=I.hok.fresh (Nat.le_refl _)
  have lt:∀ {c o},s.heap.get? c=some o→s.heap.objs.size≠c:=fun e=>Nat.ne_of_gt (Heap.lt_size e)
  have kk:∀ c o,c ∉ [z,TI,TO,i1,i2]→s.heap.get? c=some o→h2'.get? c=some o:=fun c o hc e=>
   hs'.extBut _ _ (fun q=>hc (by simp [q])) (hk c o (fun q=>hc (by simp [q])) (fun q=>hc (by simp [q])) (fun q=>hc (by simp [q])) (fun q=>hc (by simp [q])) e)
  have hT:h2'.get? s.heap.objs.size=some { cls:=.type "tuple",data:=.seq #[u1,u2] }:=hs'.extBut _ _ (lt hz) a5
  refine ⟨.ref s.heap.objs.size,upd H s.heap.objs.size (.tup [x,y]),I.movedT (tk:=s.toks) hf kk (Nat.le_refl _) ⟨show 2≤sizeLine from by decide +kernel,[u1,u2],.cons ru1 (.cons ru2 .nil),_,hT,rfl,_,rfl⟩,rfl,
   ⟨_,x,y,rfl,hfree,rfl,fun zs hzs=>by rw [I.list_inj hzs hq1];exact hx,fun zs hzs=>by rw [I.list_inj hzs hq2];exact hy⟩,
   ⟨hz',hs'.extBut _ _ D.TIz (hk _ _ D.TIz D.TITO D.TIi1 D.TIi2 hTI),⟨_,_,hs'.extBut _ _ D.TOz a2⟩,a3.extBut hs'.extBut D.i1z,a4.extBut hs'.extBut D.i2z⟩,fun b hb=>?_⟩
  have hlt:b≠s.heap.objs.size:=by
   obtain ⟨o1,e1,_⟩:=h1
   obtain ⟨o2,e2,_⟩:=h2
   simp only [List.mem_cons,List.not_mem_nil,or_false] at hb
   rcases hb with rfl | rfl | rfl | rfl | rfl
   ·exact (lt hz).symm
   ·exact (lt hTI).symm
   ·exact (lt hTO).symm
   ·exact (lt e1).symm
   ·exact (lt e2).symm
  rw [upd_ne hlt]
  exact (hf b hb).1
 done:=by
  intro X hP hw hK hc i pins s σ H E I hf st hg
  subst hP hw hK
  obtain ⟨xs,ys,hq1,hq2,hx⟩:=hg
  obtain ⟨its1,rv1,p1,hz1⟩:=I.list hq1
  obtain ⟨its2,rv2,p2,hz2⟩:=I.list hq2
  obtain ⟨hz,hTI,⟨a,b,hTO⟩,h1,h2⟩:=st
  have l1':=rv1.length
  have l2':=rv2.length
  refine wpAny_pyNext_zip_end (I.ok.hd hc) D hz hTI hTO h1 h2 p1.isList p2.isList ?_ fun h' hk=>⟨rfl,I.moved (tk:=s.toks) hf fun c o hc e=>hk c o (fun q=>hc (by simp [q])) (fun q=>hc (by simp [q])) (fun q=>hc (by simp [q])) (fun q=>hc (by simp [q])) e⟩
  rcases hx with hx | hx
  ·exact .inl (by simp;omega)
  ·exact .inr (by simp;omega)
 self:=fun _ _ _ _ _ st h=>wpAny_pyIter_zip st.1 h
theorem zip_apart (n l1 l2:Nat) (h1:l1 < n) (h2:l2 < n):ZipApart (n + 4) (n + 2) (n + 3) n (n + 1) l1 l2:=by
 constructor <;> exact fun e=>absurd (show (_:Nat)=_ from e) (by omega)
section
variable {X:Cx} {elts:List Expr} {x1:Nat} {tp:Pos}
def iZip (K:PySem.W.Frag) (ta:TA):TI:=fun σ H R=>ta σ H fun vs H1=>∃ a b xs ys,vs=[.ref a,.ref b]∧SqL K H1 a xs∧SqL K H1 b ys∧R (Itz K a b) H1
theorem pi_zip {a b:Expr} {ta:TA} {p pos:Pos} (hg:Gl X "zip") (hm:X.mg "zip" = none) (ha:PA X [a,b] ta) (hs:starEach [a,b] X.env=[(false,eval a X.env),(false,eval b X.env)]:=by rfl) (hs2:starEach [b] X.env=[(false,eval b X.env)]:=by rfl):PI X (.Tuple elts x1 tp) (.Call (.Name "zip" p) [a,b] [] pos) (iZip X.K ta):=by
 intro pins s σ H R I h
 refine Call_ (ld_blt I hg hm boot_zip (PyProof.Rows.callWith_type1 (thn (ha pos pins s σ H _ I h) fun us s1 ⟨vs,H1,I1,r1,q1⟩=>?_) (by rw [hs,hs2]) (by rw [hs2];rfl)))
 obtain ⟨l1,l2,xs,ys,rfl,hq1,hq2,q⟩:=q1
 obtain ⟨u,v,rfl,ru,rv⟩:=r1.two
 cases ru
 cases rv
 obtain ⟨its1,rv1,p1,_⟩:=I1.list hq1
 obtain ⟨its2,rv2,p2,_⟩:=I1.list hq2
 refine call_zip_2 p1.isList p2.isList fun h' z1 z2 z3 z4 z5 z6 hk=>?_
 have lt1:l1 < s1.heap.objs.size:=by obtain ⟨_,e,_⟩:=p1.isList;exact Heap.lt_size e
 have lt2:l2 < s1.heap.objs.size:=by obtain ⟨_,e,_⟩:=p2.isList;exact Heap.lt_size e
 have I2:Inv X pins σ H1 { s1 with heap:=h' }:=I1.kept (t':=s1.toks) hk
 refine wpAny_pyIter_zip z1 ?_
 refine ⟨s1.heap.objs.size + 4,[s1.heap.objs.size + 4,s1.heap.objs.size + 2,s1.heap.objs.size + 3,s1.heap.objs.size,s1.heap.objs.size + 1],_,_,H1,rfl,I2,turn_zip (l1:=l1) (l2:=l2) ?_,⟨z1,z2,⟨_,_,z3⟩,z4,z5⟩,fun b hb=>?_,q⟩
 ·exact zip_apart _ _ _ lt1 lt2
 ·have hb':s1.heap.objs.size≤b:=by
   simp only [List.mem_cons,List.not_mem_nil,or_false] at hb
   rcases hb with e | e | e | e | e <;> (rw [e];first | exact Nat.le_refl _ | exact Nat.le_add_right _ _)
  exact I1.fpOk hb' (I1.hok.fresh hb')
end
end L2
set_option Elab.async false
set_option linter.all false
set_option maxRecDepth 100000
namespace PySem.W
open PySem PySem.Spec PySem.Calls PyProof.Rows
section
variable {prog:Program} {w:World} {A:Around} {E:Value→Shared→Prop} {s:Shared} {K:Frag} {x D:Addr} {ox:Obj} {odo:Option Obj} {name:Str}
structure XTy (K:Frag) (D:Addr):Prop where
 ga:findIn K (.ref D) "__getattribute__" = some (some (.builtin "BaseException.__getattribute__"))
 gh:findIn K (.ref D) "__getattr__" = some none
 mb:mroIn K D (.type "BaseException")=some true
 mo:mroIn K D (.type "object")=some true
 ha:findIn K (.ref D) "__class__" = some (some (.builtin "object.__class__"))
 hn:specialIn K (.builtin "object.__class__") "__get__" = some (some (.builtin "getset_descriptor.__get__"))
 tk:takesIn K (.builtin "object.__class__")=some true
 cl:∃ dd cd sl,K.lookup D=some ⟨.type "type",dd,.cls cd,sl⟩
theorem XTy.find (c:XTy K D):findObj K D odo "__class__" = some (.bind (.builtin "getset_descriptor.__get__") (.builtin "object.__class__")):=by
 obtain ⟨dd,cd,sl,hl⟩:=c.cl
 have hc:clsIn K D=some cd:=by unfold clsIn;rw [hl]
 unfold findObj
 rw [hc,Option.bind_some,c.ha,Option.bind_some]
 simp [c.hn,c.tk]
end
end PySem.W
namespace L2
open PySem PySem.Spec PyProof.Rows
section
variable {X:Cx}
end
end L2
set_option Elab.async false
set_option linter.all false
set_option maxRecDepth 100000
namespace L2
open PySem PySem.Spec PyProof.Rows
structure XR (K:PySem.W.Frag) (C:Addr):Prop where
 ex:∃ (bm bmN:List Value) (newId Bn inN B nid initId:String),XCls K C bm newId∧ExcBaseFacts Bn newId inN bmN∧bm.contains (.type Bn)=true∧ExcBaseFacts B nid initId bm
theorem ps_raiseX {X:Cx} {x:Str} {np cpos pos:Pos} {e₀:Expr} {rest:List Expr} {t:TA} {C:Addr} {E:XK} (c:XR X.K C) (hc:X.calm=true) (hg:Gl X x) (hm:X.mg x=some (.ref C)) (hx:Makes X E) (ha:PA X (e₀ :: rest) t)
  (hd:(x == ("__debug__":Str))=false:=by decide +kernel)
  (he:starEach (e₀ :: rest) X.env=(false,eval e₀ X.env) :: starEach rest X.env:=by rfl) (hpl:(backTo cpos (starEach rest X.env)).any (·.1)=false:=by rfl) :
  PS X (.Raise (some (.Call (.Name x np) (e₀ :: rest) [] cpos)) none pos) (tRaise C E t):=by
 obtain ⟨bm,bmN,newId,Bn,inN,B,nid,initId,c1,c2,c3,c4⟩:=c.ex
 exact ps_raise c1 c2 c3 c4 hc hg hm hx ha hd he hpl
section
variable {P:Program} {w:World} {K:PySem.W.Frag} {mg:Str→Option Value} {base:Heap}
theorem Fun.okX {x qual:Str} {st:Stmt} {f:Addr} {fd:FuncData} {N ps:List Str} {k:Nat} {sp:Sp} (F:Fun K x qual st f fd) (S:FnScope N ps (defScope st)) (len:∀ vs H Q E,sp vs H Q E→vs.length=ps.length)
  (hbody:∀ (cdv:Value) (A:Around) (outer:List Env) (s:Shared) (H:Hp) (vs:List V) (Q:VK) (E:XK),Room k (A.deeper (envOfC qual (defScope st) s.heap.objs.size f cdv))→sp vs H Q E →
   ∃ t,PSs (cxOf (CX1 P w) P w K mg base N qual (defScope st) f cdv A outer s H E) (defBody st) t∧t { nx:=fun _ H'=>Q .non H',rt:=Q } (start N vs) H):FnOk P w K mg base (CX1 P w) (k + 1) f fd ps sp:=by
 obtain ⟨oc,od,kV,doc,pm,an,cdv,ct,osl,rfl,lk,hcd⟩:=F.ex
 exact fn_of lk hcd S len fun A outer s H vs Q E hr hsp=>hbody cdv A outer s H vs Q E hr hsp
theorem FnOk.lift {CX:CXT} {k:Nat} {f:Addr} {fd:FuncData} {ps:List Str} {sp:Sp} (F:FnOk P w K mg base CX0 k f fd ps sp):FnOk P w K mg base CX k f fd ps sp:=
 ⟨F.len,fun A outer s H args us vs Q E hr he hb hv hs=>codeAny_mono (F.run A outer s H args us vs Q E hr he hb hv hs) fun r s' hq=>by
  cases r with
  | error e=>exact False.elim hq
  | ok fl=>cases fl <;> exact hq⟩
theorem Cal.lift {CX:CXT} {k:Nat} {x:Str} {ps:List Str} {sp:Sp} (c:Cal P w K mg base CX0 k x ps sp):Cal P w K mg base CX k x ps sp:=by
 obtain ⟨f,fd,F,r⟩:=c.ex
 exact ⟨f,fd,F.lift,r⟩
end
theorem pg_tupK {X:Cx} {K:PySem.W.Frag} {es:List Expr} {k:Nat} {t:TGs} {n:Nat} {pos:Pos} (hK:X.K=K) (hc:X.calm=true) (h:PGs X es t)
  (hn:(assignEach es X.env).length=n:=by rfl) (hst:(assignEach es X.env).findIdx? (·.1)=none:=by rfl):PG X (.Tuple es k pos) (gTup K n t):=hK ▸ pg_tup hc h hn hst
section
variable {K:PySem.W.Frag} {g:TG} {ti:TT} {te:TE} {σ:St} {H:Hp} {Q:List V→Hp→Prop}
theorem comp_zip {a b:Addr} {xs ys:List V} {n:Nat} (hn:n=min xs.length ys.length) (Pv:Nat→List V→St→Hp→Prop) (h0:Pv 0 [] σ H) (hz:∀ i acc σ H,Pv i acc σ H→acc.length < sizeLine) (hi:∀ i acc σ H,Pv i acc σ H→i≤n)
  (hl:∀ i acc σ H,Pv i acc σ H→SqL K H a xs∧SqL K H b ys)
  (hs:∀ i x y acc σ H T,xs[i]?=some x→ys[i]?=some y→Pv i acc σ H→H T=none→g (.ref T) σ (upd H T (.tup [x,y])) fun σ2 H3=>ti σ2 H3 fun b H4=>if b=true then te σ2 H4 fun v H5=>Pv (i + 1) (acc ++ [v]) σ2 H5 else Pv (i + 1) acc σ2 H4)
  (he:∀ acc σ H,Pv n acc σ H→Q acc H):CompW (Itz K a b) g ti te σ H Q:=by
 refine comp_by (J:=Itz K a b) (g:=g) (ti:=ti) (te:=te) (Q:=Q) (n:=n) Pv h0 hz hi (fun acc σ H w=>⟨xs,ys,(hl _ _ _ _ w).1,(hl _ _ _ _ w).2,by omega⟩)
  (fun i acc σ H hlt w=>⟨xs,ys,xs[i]'(by omega),ys[i]'(by omega),(hl _ _ _ _ w).1,(hl _ _ _ _ w).2,List.getElem?_eq_getElem (by omega),List.getElem?_eq_getElem (by omega)⟩) (fun i x acc σ H H2 hlt w y=>?_) he
 obtain ⟨T,x,y,rfl,hT,rfl,hx,hy⟩:=y
 exact hs i x y acc σ H T (hx xs (hl _ _ _ _ w).1) (hy ys (hl _ _ _ _ w).2) w hT
end
end L2
namespace QL
open PySem
end QL
set_option Elab.async false
set_option linter.all false
set_option maxRecDepth 100000
namespace L2
open PySem PySem.Spec PyProof.Rows
def Ite (K:PySem.W.Frag) (a:Addr):It:=
 ⟨fun i H=>∃ xs x,SqL K H a xs∧xs[i]?=some x,fun i H v H'=>∃ T x,v=.ref T∧H T=none∧H'=upd H T (.tup [.int (i:Int),x])∧∀ xs,SqL K H a xs→xs[i]?=some x,fun i H=>∃ xs,SqL K H a xs∧xs.length≤i⟩
def Itse (x:Str):It:=
 ⟨fun i _=>i < x.cps.size,fun i H v H'=>∃ T c,v=.ref T∧H T=none∧H'=upd H T (.tup [.int (i:Int),.str ⟨#[c]⟩])∧x.cps[i]?=some c,fun i _=>i=x.cps.size⟩
theorem turn_enum {P:Program} {w:World} {K:PySem.W.Frag} {elts:List Expr} {x1:Nat} {tp:Pos} {e it l:Addr} (hei:e≠it) :
  Turn P w K (.Tuple elts x1 tp) (Ite K l) [e,it] e (fun i h=>(∃ old,IsEnum h e it i old)∧h.IsListIter it l i) where
 mem:=by simp
 obj:=fun i h st b hb=>by
  obtain ⟨⟨old,he⟩,⟨o1,e1,c1,d1⟩⟩:=st
  simp only [List.mem_cons,List.not_mem_nil,or_false] at hb
  rcases hb with rfl | rfl
  ·exact ⟨_,he,fun v q=>by cases q⟩
  ·exact ⟨_,e1,fun v q=>by rw [d1] at q;cases q⟩
 keep:=fun i h h' st hk=>by
  obtain ⟨⟨old,he⟩,h1⟩:=st
  exact ⟨⟨old,hk e (by simp) _ he⟩,h1.at fun o e'=>hk it (by simp) o e'⟩
 item:=by
  intro X hP hw hK hc i pins s σ H E I hf st hg
  subst hP hw hK
  obtain ⟨xs,x,hq,hx⟩:=hg
  obtain ⟨its,rv,p,hz⟩:=I.list hq
  obtain ⟨u,hu,ru⟩:=rv.get hx
  obtain ⟨⟨old,he⟩,h1⟩:=st
  obtain ⟨o1,e1,_⟩:=id h1
  refine wpAny_pyNext_enum_item he h1 p.isList (x:=u) (by simpa using hu) hei fun h' a1 a2 a3 a4 hk=>?_
  refine ⟨_,rfl,wpAny_letOwnedTupleGo_enum a1 fun h2 he2 hs2=>?_⟩
  have hfree:H s.heap.objs.size=none:=I.hok.fresh (Nat.le_refl _)
  have lt:∀ {c o},s.heap.get? c=some o→s.heap.objs.size≠c:=fun e=>Nat.ne_of_gt (Heap.lt_size e)
  have kk:∀ c o,c ∉ [e,it]→s.heap.get? c=some o→h2.get? c=some o:=fun c o hc q=>
   hs2.extBut _ _ (fun z=>hc (by simp [z])) (hk c o (fun z=>hc (by simp [z])) (fun z=>hc (by simp [z])) q)
  have hT:h2.get? s.heap.objs.size=some { cls:=.type "tuple",data:=.seq #[.int i s.toks,u] }:=hs2.extBut _ _ (lt he) a3
  refine ⟨.ref s.heap.objs.size,upd H s.heap.objs.size (.tup [.int i,x]),I.movedT (tk:=s.toks + 1) hf kk (Nat.le_refl _) ⟨show 2≤sizeLine from by decide +kernel,[.int i s.toks,u],.cons ⟨_,rfl⟩ (.cons ru .nil),_,hT,rfl,_,rfl⟩,rfl,
   ⟨_,x,rfl,hfree,rfl,fun zs hzs=>by rw [I.list_inj hzs hq];exact hx⟩,⟨⟨u,by simpa using he2⟩,a2.extBut hs2.extBut (Ne.symm hei)⟩,fun b hb=>?_⟩
  have hlt:b≠s.heap.objs.size:=by
   simp only [List.mem_cons,List.not_mem_nil,or_false] at hb
   rcases hb with rfl | rfl
   ·exact (lt he).symm
   ·exact (lt e1).symm
  rw [upd_ne hlt]
  exact (hf b hb).1
 done:=by
  intro X hP hw hK hc i pins s σ H E I hf st hg
  subst hP hw hK
  obtain ⟨xs,hq,hx⟩:=hg
  obtain ⟨its,rv,p,hz⟩:=I.list hq
  obtain ⟨⟨old,he⟩,h1⟩:=st
  have l1':=rv.length
  refine wpAny_pyNext_enum_end (I.ok.hd hc) he h1 p.isList (by simp;omega) fun h' hk=>⟨rfl,I.moved (tk:=s.toks) hf fun c o hc e=>hk c o (fun q=>hc (by simp [q])) e⟩
 self:=fun _ _ _ _ _ st h=>let ⟨⟨_,he⟩,_⟩:=st;wpAny_pyIter_enum he h
section
variable {X:Cx} {elts:List Expr} {x1:Nat} {tp:Pos}
def iEnum (K:PySem.W.Frag) (ta:TA):TI:=fun σ H R=>ta σ H fun vs H1=>∃ a xs,vs=[.ref a]∧SqL K H1 a xs∧R (Ite K a) H1
theorem pi_enum {a:Expr} {ta:TA} {p pos:Pos} (hg:Gl X "enumerate") (hm:X.mg "enumerate" = none) (ha:PA X [a] ta) (hs:starEach [a] X.env=[(false,eval a X.env)]:=by rfl):PI X (.Tuple elts x1 tp) (.Call (.Name "enumerate" p) [a] [] pos) (iEnum X.K ta):=by
 intro pins s σ H R I h
 refine Call_ (ld_blt I hg hm boot_enumerate (PyProof.Rows.callWith_type1 (thn (ha pos pins s σ H _ I h) fun us s1 ⟨vs,H1,I1,r1,q1⟩=>?_) (by rw [hs];rfl) (by rfl)))
 obtain ⟨l,xs,rfl,hq,q⟩:=q1
 obtain ⟨u,rfl,ru⟩:=r1.one
 cases ru
 obtain ⟨its,rv,p1,_⟩:=I1.list hq
 refine call_enumerate_list p1.isList fun h' z1 z2 z3 hk=>?_
 have I2:Inv X pins σ H1 { s1 with heap:=h' }:=I1.kept (t':=s1.toks) hk
 refine wpAny_pyIter_enum z1 ?_
 refine ⟨s1.heap.objs.size + 1,[s1.heap.objs.size + 1,s1.heap.objs.size],_,_,H1,rfl,I2,turn_enum (l:=l) (Nat.ne_of_gt (Nat.lt_succ_self _)),⟨⟨_,z1⟩,z2⟩,fun b hb=>?_,q⟩
 have hb':s1.heap.objs.size≤b:=by
  simp only [List.mem_cons,List.not_mem_nil,or_false] at hb
  rcases hb with e | e <;> (rw [e];first | exact Nat.le_refl _ | exact Nat.le_add_right _ _)
 exact I1.fpOk hb' (I1.hok.fresh hb')
def iEnumS (ta:TA):TI:=fun σ H R=>ta σ H fun vs H1=>∃ x,vs=[.str x]∧R (Itse x) H1
end
section
variable {K:PySem.W.Frag} {g:TG} {tb:TS} {D:Ends} {σ:St} {H:Hp}
theorem forw_enum {a:Addr} {xs:List V} (Pv:Nat→St→Hp→Prop) (h0:Pv 0 σ H) (hl:∀ i σ H,i≤xs.length→Pv i σ H→SqL K H a xs)
  (hs:∀ (i:Nat) x σ H T,xs[i]?=some x→Pv i σ H→H T=none→g (.ref T) σ (upd H T (.tup [.int (i:Int),x])) fun σ2 H2=>tb { D with nx:=Pv (i + 1),ct:=Pv (i + 1),bk:=D.nx } σ2 H2) (hd:∀ σ H,Pv xs.length σ H→D.nx σ H):ForW (Ite K a) g tb D σ H:=by
 refine ⟨fun i m σ H=>m=xs.length - i∧i≤xs.length∧Pv i σ H,⟨xs.length,by simp,Nat.zero_le _,h0⟩,?_⟩
 rintro i m σ H ⟨rfl,hi,p⟩
 have q:=hl i σ H hi p
 by_cases hlt:i < xs.length
 ·refine .inr ⟨⟨xs,xs[i],q,by simp [hlt]⟩,Pv (i + 1),fun σ' H' p'=>⟨xs.length - (i + 1),by omega,rfl,hlt,p'⟩,fun x H' y=>?_⟩
  obtain ⟨T,x,rfl,hT,rfl,y⟩:=y
  exact hs i x σ _ T (y xs q) p hT
 ·have e:i=xs.length:=by omega
  subst e
  exact .inl ⟨⟨xs,q,Nat.le_refl _⟩,hd σ H p⟩
end
end L2
set_option Elab.async false
set_option linter.all false
set_option maxRecDepth 100000
namespace PySem
open Sem (wp)
section
variable {M:Model} {A:Around} {E:Value→Shared→Prop} {env:Env}
variable {nm q:Str} {C N:Addr} {bs bm:List Value} {hdct:Bool} {sn:List Str} {sub:List Value} {ab:Bool} {col:Option Bool} {dd:Option Addr} {k0 k1 k2 k3 k5:Option Value} {newId:String}
theorem raiseStmt_exc {s:Shared} {x:Sem Value} {Q:Flow→Shared→Prop} (hbase:bm.contains (.type "BaseException")=true) (hh:A.handled=none)
  (h:wpAny M A x (fun v s₁=>∃ e oe vs,v=.ref e∧s₁.heap.get? C=some (excClassObj nm q C N bs bm hdct sn sub ab col dd k0 k1 k2 k3 k5 newId)∧s₁.heap.get? e=some oe∧oe.cls=.ref C∧oe.data=.fields vs∧vs[1]?=some .none∧E (.ref e) s₁) E s) :
  wpAny M A (raiseStmt env (some x) none) Q E s:=by
 have hcB:(Value.ref C :: bm).contains (.type "BaseException")=true:=by rw [List.contains_cons,hbase,Bool.or_true]
 unfold raiseStmt
 refine wpAny_bind (wpAny_mono h (fun v s₁ h₁=>?_) fun _ _ x=>x)
 obtain ⟨e,⟨oc,od,dt,sl⟩,vs,rfl,hC,he,hc,hd,hv,hE⟩:=h₁
 dsimp only at hc hd
 subst hc hd
 obtain ⟨hp,g,d,tk,os⟩:=s₁
 repeat (first | with_reducible refine wpAny_loadPart_at he ?_ | with_reducible refine wpAny_loadPart_at hC ?_ | (with_reducible refine wpAny_isSubtype_exc hC ?_;rw [hcB]) | wp_step)
 rw [hv]
 refine wpAny_pure ?_
 rw [if_neg (by decide)]
 exact wpAny_pure (wpAny_raiseNew_none hh hE)
end
section
variable {prog:Program} {w:World} {A:Around} {E:Value→Shared→Prop} {h:Heap} {g:Array GenState} {d:Drawn} {t:Nat} {os:OsState}
variable {nm q:Str} {C N:Addr} {bs bm bmB:List Value} {hdct:Bool} {sn:List Str} {sub:List Value} {ab:Bool} {col:Option Bool} {dd:Option Addr} {k0 k1 k2 k3 k5:Option Value} {B Bn newId nid initId inN:String} {bmN:List Value} {K:PySem.W.Frag}
theorem type_call_exc_initU (Fn:ExcBaseFacts Bn newId inN bmN) (hBn:bmB.contains (.type Bn)=true) (F:ExcBaseFacts B nid initId bmB) (T:OwnTail h bmB bm) (X:K.In h) {rest:List Value} {fI:Addr} {Q:Fin→Shared→Prop}
  (hC:h.get? C=some (excClassObj nm q C N bs bm hdct sn sub ab col dd k0 k1 k2 k3 k5 newId)) (hi:PySem.W.findIn K (.ref C) "__init__" = some (some (.ref fI))) (hf:PySem.W.typeIn K (.ref fI)=some (.type "function"))
  (hq:∀ h' e,Heap.MadeExcOf h h' e (.ref C) rest →
   wpAny (model prog w) A (call (.ref fI) (.ref e :: rest)) (fun r s'=>r=.none∧Q (.done (.ret (.ref e))) s') E ⟨h',g,d,t,os⟩) (hrest:rest.length≤sizeLine) :
  wpAny (model prog w) A (Builtin.«type.__call__» ⟨.ref C :: rest,[]⟩) Q E ⟨h,g,d,t,os⟩:=by
 repeat (first | with_reducible refine wpAny_loadPart_at hC ?_ | with_reducible refine wpAny_madeBy_exc hC ?_ | wp_step)
 refine codeAny_call_builtin_code (Code.quiet_builtin _ Fn.quiet) (wpAny_check_new_subU Fn hBn T hC ?_)
 refine codeAny_exc_new_subU Fn hBn F T hC ?_ hrest
 show wpAny _ _ _ _ _ _
 have hC₁:=Heap.get?_push_of_some { cls:=.ref C,data:=.fields #[.ref h.objs.size,.none,.none,.none,.bool false,.none] }
  (Heap.get?_push_of_some { cls:=.type "tuple",data:=.seq rest.toArray } hC)
 have hget:((h.push { cls:=.type "tuple",data:=.seq rest.toArray }).push
   { cls:=.ref C,data:=.fields #[.ref h.objs.size,.none,.none,.none,.bool false,.none] }).get? (h.objs.size + 1)=some
   { cls:=.ref C,data:=.fields #[.ref h.objs.size,.none,.none,.none,.bool false,.none] }:=by heap_get
 have hcC:(Value.ref C :: bm).contains (.ref C)=true:=by simp
 have X₁:K.In ((h.push { cls:=.type "tuple",data:=.seq rest.toArray }).push { cls:=.ref C,data:=.fields #[.ref h.objs.size,.none,.none,.none,.bool false,.none] }):=
  X.keeps fun b o e=>Heap.get?_push_of_some _ (Heap.get?_push_of_some _ e)
 unfold isInstance
 repeat (first | with_reducible refine wpAny_loadPart_at hget ?_ | (with_reducible refine wpAny_isSubtype_exc hC₁ ?_;rw [hcC]) | wp_step)
 show wpAny _ _ (typeLookup (.ref C) _) _ _ _
 refine (PySem.W.looks_findIn X₁ hi).at ?_
 refine wpAny_holding (wpAny_bind ((PySem.W.bind_fn X₁ _ hf).at ?_))
 refine wpAny_bind (wpAny_mono (hq _ (h.objs.size + 1) ⟨fun b o hb=>Heap.get?_push_of_some _ (Heap.get?_push_of_some _ hb),Heap.get?_none_of_le (Nat.le_succ _),h.objs.size,hget,Heap.get?_none_of_le (Nat.le_refl _),?_⟩) (fun r s' hr=>?_) fun _ _ x=>x)
 ·exact Heap.get?_push_of_some _ (Heap.get?_push_at rfl rfl)
 ·obtain ⟨rfl,hQ⟩:=hr
  wp_walk
  exact hQ
theorem call_exc_initU (Fn:ExcBaseFacts Bn newId inN bmN) (hBn:bmB.contains (.type Bn)=true) (F:ExcBaseFacts B nid initId bmB) (T:OwnTail h bmB bm) (X:K.In h) {rest:List Value} {fI:Addr} {Q:Value→Shared→Prop}
  (hC:h.get? C=some (excClassObj nm q C N bs bm hdct sn sub ab col dd k0 k1 k2 k3 k5 newId)) (hi:PySem.W.findIn K (.ref C) "__init__" = some (some (.ref fI))) (hf:PySem.W.typeIn K (.ref fI)=some (.type "function"))
  (hq:∀ h' e,Heap.MadeExcOf h h' e (.ref C) rest →
   wpAny (model prog w) (A.under (.builtin "type.__call__" ⟨.ref C :: rest,[]⟩)) (call (.ref fI) (.ref e :: rest)) (fun r s'=>r=.none∧Q (.ref e) s') E ⟨h',g,d,t,os⟩) (hrest:rest.length≤sizeLine) :
  wpAny (model prog w) A (call (.ref C) rest) Q E ⟨h,g,d,t,os⟩:=by
 have f1:=tc_lookup
 have f2:=tc_bind (.ref C)
 have hT:(⟨h,g,d,t,os⟩:Shared).TypeIs (.ref C) "type":=⟨_,hC,rfl⟩
 refine wpAny_call (codeAny_of_tree ?_)
 show wpAny _ _ (callAny (.ref C) _) _ _ _
 repeat (any_goals (first | assumption | with_reducible refine wpAny_loadPart_at hC ?_ | wp_step))
 refine ⟨rfl,?_⟩
 refine codeAny_call_builtin_at (Code.quiet_builtin _ (by decide +kernel)) entry_typeCall (wpAny_check_type_call_sub hC (type_call_exc_initU (hrest:=hrest) Fn hBn F T X hC hi hf fun h' e hm=>?_))
 exact hq h' e hm
end
section
variable {prog:Program} {w:World} {A:Around} {E:Value→Shared→Prop} {s:Shared} {env:Env}
variable {nm q:Str} {C N:Addr} {bs bm bmB:List Value} {hdct:Bool} {sn:List Str} {sub:List Value} {ab:Bool} {col:Option Bool} {dd:Option Addr} {k0 k1 k2 k3 k5:Option Value} {B Bn newId nid initId inN:String} {bmN:List Value} {K:PySem.W.Frag}
theorem Raise_call_initU (Fn:ExcBaseFacts Bn newId inN bmN) (hBn:bmB.contains (.type Bn)=true) (F:ExcBaseFacts B nid initId bmB) {x:Str} {np cpos pos:Pos} {args:List Expr} {fI:Addr} {Q:Flow→Shared→Prop}
  (hbase:bm.contains (.type "BaseException")=true) (hh:A.handled=none) (hplain:(backTo cpos (starEach args env)).any (·.1)=false) (hi:PySem.W.findIn K (.ref C) "__init__" = some (some (.ref fI))) (hf:PySem.W.typeIn K (.ref fI)=some (.type "function"))
  (h:wpAny (model prog w) A (eval (.Name x np) env) (fun f s₁=>f=.ref C∧wpAny (model prog w) A (evalArgs (.ref C) true (backTo cpos (starEach args env)) [])
   (fun a s₂=>a.kw=[]∧a.pos.length≤sizeLine∧s₂.heap.get? C=some (excClassObj nm q C N bs bm hdct sn sub ab col dd k0 k1 k2 k3 k5 newId)∧K.In s₂.heap∧OwnTail s₂.heap bmB bm ∧
    ∀ h' e,Heap.MadeExcOf s₂.heap h' e (.ref C) a.pos→wpAny (model prog w) (A.under (.builtin "type.__call__" ⟨.ref C :: a.pos,[]⟩)) (call (.ref fI) (.ref e :: a.pos))
     (fun r s'=>r=.none∧∃ oe vs,s'.heap.get? C=some (excClassObj nm q C N bs bm hdct sn sub ab col dd k0 k1 k2 k3 k5 newId)∧s'.heap.get? e=some oe∧oe.cls=.ref C∧oe.data=.fields vs∧vs[1]?=some .none∧E (.ref e) s') E { s₂ with heap:=h' }) E s₁) E s) :
  wpAny (model prog w) A (exec (.Raise (some (.Call (.Name x np) args [] cpos)) none pos) env) Q E s:=by
 rw [arm_exec_Raise]
 simp only [evalOpt,Option.map]
 refine wpAny_bind (wpAny_standAt (raiseStmt_exc (C:=C) (nm:=nm) (q:=q) (N:=N) (bs:=bs) (bm:=bm) (hdct:=hdct) (sn:=sn) (sub:=sub) (ab:=ab) (col:=col) (dd:=dd) (k0:=k0) (k1:=k1) (k2:=k2) (k3:=k3) (k5:=k5) (newId:=newId) hbase hh (wpAny_bind (wpAny_mono (wpAny_Call_ofName (wpAny_mono h (fun f s₁ h₁=>?_) fun _ _ x=>x)) (fun v s₃ h₃=>wpAny_bind (wpAny_standAt (wpAny_pure h₃))) fun _ _ x=>x))))
 obtain ⟨rfl,h₁⟩:=h₁
 unfold callWith
 refine wpAny_bind (wpAny_holding (wpAny_mono h₁ (fun a s₂ h₂=>wpAny_bind (wpAny_standAt ?_)) fun _ _ x=>x))
 obtain ⟨apos,akw⟩:=a
 obtain ⟨hkw,hlen,hC,hX,T,h₂⟩:=h₂
 obtain rfl:akw=[]:=hkw
 obtain ⟨hp,g,d,tk,os⟩:=s₂
 simp only [hplain]
 refine wpAny_bind (wpAny_keeperOf_exc hC ?_)
 refine wpAny_bind (call_exc_initU (hrest:=hlen) Fn hBn F T hX hC hi hf fun h' e hm=>wpAny_mono (h₂ h' e hm) (fun r s' hr=>⟨hr.1,wpAny_bind (wpAny_holding (wpAny_point (wpAny_pure ?_)))⟩) fun _ _ x=>x)
 obtain ⟨_,oe,vs,a1,a2,a3,a4,a5,a6⟩:=hr
 exact ⟨e,oe,vs,rfl,a1,a2,a3,a4,a5,a6⟩
end
end PySem
namespace PySem.W
open PySem PySem.Spec PySem.Calls PyProof.Rows
open Builtin Builtin.ObjectAttr
def excOut (K:Frag) (C:Addr) (bmB:List Value) (newId:String):Bool:=match K.lookup C with
 | some ⟨.type "type",_,.cls cd,sl⟩=>(match cd.mro,sl.toList with
  | .ref C' :: bm,[_,_,_,_,some (.builtin n),_]=>C' == C && n == newId && !cd.hasDel && tailIn K bmB bm && nsOkIn K cd.ns
  | _,_=>false)
 | _=>false
def strip:List Value→List Value
 | .ref _ :: r=>strip r
 | l=>l
theorem refuse_strip (self:Value):∀ {l bm:List Value},strip l=bm→refuseLoop self "__setattr__" bm=pure ()→refuseLoop self "__setattr__" l=pure ()
 | [],_,e,h=>by rw [show ([]:List Value)=_ from e];exact h
 | .ref c :: r,_,e,h=>by rw [refuseLoop_ref];exact refuse_strip self (l:=r) e h
 | .type n :: r,_,e,h=>by rw [show (Value.type n :: r)=_ from e];exact h
 | .none :: r,_,e,h=>by rw [show (Value.none :: r)=_ from e];exact h
 | .bool b :: r,_,e,h=>by rw [show (Value.bool b :: r)=_ from e];exact h
 | .int i t :: r,_,e,h=>by rw [show (Value.int i t :: r)=_ from e];exact h
 | .float i t :: r,_,e,h=>by rw [show (Value.float i t :: r)=_ from e];exact h
 | .str i t :: r,_,e,h=>by rw [show (Value.str i t :: r)=_ from e];exact h
 | .bytes i t :: r,_,e,h=>by rw [show (Value.bytes i t :: r)=_ from e];exact h
 | .builtin n :: r,_,e,h=>by rw [show (Value.builtin n :: r)=_ from e];exact h
 | .ellipsis :: r,_,e,h=>by rw [show (Value.ellipsis :: r)=_ from e];exact h
 | .notImplemented :: r,_,e,h=>by rw [show (Value.notImplemented :: r)=_ from e];exact h
structure XSt (K:Frag) (C:Addr) (f:Str):Prop where
 sa:findIn K (.ref C) "__setattr__" = some (some (.builtin "object.__setattr__"))
 st:∃ cd,clsIn K C=some cd∧strip cd.mro=[.type "ValueError",.type "Exception",.type "BaseException",.type "object"]∧cd.hasDict=true∧cd.mro.contains (.type "object")=true∧cd.mro.isEmpty=false
 no:findIn K (.ref C) f=some none
section
variable {prog:Program} {w:World} {A:Around} {E:Value→Shared→Prop} {s:Shared} {K:Frag} {x C:Addr} {ox:Obj} {vs:Array Value} {name:Str} {v:Value}
theorem set_new {Q:Unit→Shared→Prop} (X:K.In s.heap) (c:XSt K C name) (hx:s.heap.get? x=some ox) (hcl:ox.cls=.ref C) (hdn:ox.dict=none) (hdt:ox.data=.fields vs)
  (h:∀ h' t',(∀ b o,b≠x→s.heap.get? b=some o→h'.get? b=some o)→h'.get? x=some { ox with dict:=some s.heap.objs.size }→h'.Ns1 s.heap.objs.size (fun y=>if y=name then some v else none)→Q () { s with heap:=h',toks:=t' }) :
  wpAny (model prog w) A (setAttr (.ref x) name v) Q E s:=by
 obtain ⟨cd,hc,hst,hhd,hob,hne⟩:=c.st
 obtain ⟨oc,od,dt,sl⟩:=ox
 dsimp only at hcl hdn hdt
 subst hcl hdn hdt
 have J:InstAt s.heap x ⟨.ref C,none,.fields vs,sl⟩ C none:=⟨hx,rfl,rfl,trivial⟩
 obtain ⟨hh,g,d,t,os⟩:=s
 have SF:=PySem.F.store_object
 refine set_plain X J c.sa ?_
 have sub:Looks (model prog w) hh (isInstance (.ref x) (.type "object")) true:=J.type.andThen (looks_mroIn X (by unfold mroIn;rw [hc,Option.bind_some,if_neg (by rw [hne];decide),hob]))
 refine codeAny_call_builtin SF.slot.plain SF.entry (@check_slot (model prog w) _ _ _ "object.__setattr__" "object" "__setattr__" (.ref x) [.str name t,v] [] _ SF.kind SF.split sub (SF.args (.ref x) (.str name t) v) ?_)
 have hm:Looks (model prog w) hh (mroOf (.ref C)) cd.mro:=(looks_clsIn X hc).andThen .now
 rw [osa_eq,refuse_eq]
 refine wpAny_bind (wpAny_bind (J.type.at (wpAny_bind (hm.at ?_))))
 rw [refuse_strip _ hst (PySem.F.store_ValueError.passes _)]
 refine wpAny_pure (wpAny_bind (J.type.at (wpAny_bind ((looks_findIn X c.no).at (wpAny_bind (wpAny_pure ?_))))))
 have hx₁:(hh.push { cls:=.type "dict",data:=.dict #[] }).get? x=some ⟨.ref C,none,.fields vs,sl⟩:=Heap.get?_push_of_some _ hx
 have hxs:x≠hh.objs.size:=Nat.ne_of_lt (Heap.lt_size hx)
 show wpAny _ _ (storeInOwnDict (.ref x) (.ref C) (.str name t) name v false) _ _ _
 refine wpAny_bind (wpAny_pure (wpAny_bind (wpAny_bind (wpAny_loadPart hx ?_))))
 refine wpAny_bind ((looks_clsIn X hc).at ?_)
 rw [if_neg (by rw [hhd];decide)]
 dsimp only
 rw [if_neg (by simp [typeHasDict])]
 refine wpAny_bind (wpAny_alloc' ?_)
 refine wpAny_bind (wpAny_update' hx₁ ?_)
 refine wpAny_pure ?_
 have hgd:((hh.push { cls:=.type "dict",data:=.dict #[] }).update x fun o=>{ cls:=o.cls,dict:=some hh.objs.size,data:=o.data,slots:=o.slots }).get? hh.objs.size
   = some { cls:=.type "dict",data:=.dict #[] }:=
  (Heap.get?_update_ne _ _ _ _ hxs.symm).trans (Heap.get?_push_at rfl rfl)
 have hnd:((hh.push { cls:=.type "dict",data:=.dict #[] }).update x fun o=>{ cls:=o.cls,dict:=some hh.objs.size,data:=o.data,slots:=o.slots }).Ns hh.objs.size (fun _=>none):=
  ⟨_,#[],_,hgd,rfl,fun e he=>absurd he (by simp),fun _=>rfl⟩
 show wpAny _ _ (storeInDict hh.objs.size (.str name t) name v) _ _ _
 unfold storeInDict newKeyGuard
 refine wpAny_bind (wpAny_pure (wpAny_bind (wpAny_nsSet1 (Heap.Ns1.of_empty hnd) fun h' hn' hs=>?_)))
 obtain ⟨oD,esD,epD,hoD,hdD,hcD⟩:=hn'.count (Within.cons name v Within.nil)
 refine wpAny_bind (wpAny_lookBehind hoD (by rw [hdD];exact pastItsLine_dict (Nat.le_trans hcD (by rw [List.length_cons,List.length_nil,sizeLine_eq];omega))) ?_)
 refine wpAny_pure (h h' _ (fun b o hb e=>(hs.2 b (Nat.ne_of_lt (Heap.lt_size e))).trans ((Heap.get?_update_ne _ _ _ _ hb).trans (Heap.get?_push_of_some _ e))) ?_ hn')
 exact (hs.2 x hxs).trans (Heap.get?_update_self _ hx₁ rfl)
end
end PySem.W
set_option Elab.async false
set_option linter.all false
set_option maxRecDepth 100000
namespace L2
open PySem PySem.Spec PyProof.Rows
structure XOut (K:PySem.W.Frag) (C:Addr) (bmB:List Value) (newId:String):Prop where
 exc:PySem.W.excOut K C bmB newId=true
theorem XOut.obj {K:PySem.W.Frag} {C:Addr} {bmB:List Value} {newId:String} {h:Heap} (c:XOut K C bmB newId) (X:K.In h):∃ bm N nm q bs hdct sn sub ab col dd k0 k1 k2 k3 k5,
  h.get? C=some (excClassObj nm q C N bs bm hdct sn sub ab col dd k0 k1 k2 k3 k5 newId)∧OwnTail h bmB bm∧∃ dd' cd sl,K.lookup C=some ⟨.type "type",dd',.cls cd,sl⟩∧cd.mro=.ref C :: bm:=by
 have q:=c.exc
 unfold PySem.W.excOut at q
 cases hl:K.lookup C with
 | none=>rw [hl] at q;cases q
 | some ob=>
  rw [hl] at q
  split at q
  ·rename_i dd cd sl e
   cases e
   split at q
   ·rename_i C' bm k0 k1 k2 k3 n k5 hm hs
    simp only [Bool.and_eq_true,beq_iff_eq,Bool.not_eq_true'] at q
    obtain ⟨⟨⟨⟨rfl,rfl⟩,hdel⟩,ht⟩,hok⟩:=q
    have ho:=X _ _ hl
    have hsl:sl=#[k0,k1,k2,k3,some (.builtin n),k5]:=Array.toList_inj.mp hs
    subst hsl
    obtain ⟨nm,bs,mro,ns,qn,hd,sn,sub,ab,col,del⟩:=cd
    dsimp only at hm hdel hok ho
    subst hm hdel
    exact ⟨bm,ns,nm,qn,bs,hd,sn,sub,ab,col,dd,k0,k1,k2,k3,k5,ho,PySem.W.tail_of_in X ht,dd,_,_,rfl,rfl⟩
   ·cases q
  ·cases q
def FrAt (ea:Addr) (cls:Value) (od:Option Addr) (h:Heap):Prop:=∃ o vs,h.get? ea=some o∧o.cls=cls∧o.dict=od∧o.data=.fields vs∧vs[1]?=some .none∧vs[2]?=some .none∧vs.size=6
abbrev xn (ea:Addr) (cls:Value) (od:Option Addr):HO:=.ext (FrAt ea cls od)
theorem frAt_stay {ea:Addr} {cls:Value} {od:Option Addr}:∀ h1 h2:Heap,FrAt ea cls od h1→(∀ o,h1.get? ea=some o→h2.get? ea=some o)→FrAt ea cls od h2:=
 fun h1 h2 ⟨o,ws,e1,e2,e3,e4,e5⟩ k=>⟨o,ws,k o e1,e2,e3,e4,e5⟩
section
variable {X:Cx} {o value:Expr} {f:Str} {pos pos':Pos} {ta tv:TE}
def sXSet (K:PySem.W.Frag) (ta tv:TE) (f:Str):TS:=fun D σ H=>tv σ H fun y H1=>ta σ H1 fun x H2=>∃ a C,x=.ref a∧H2 a=some (xn a (.ref C) none)∧PySem.W.XSt K C f ∧
 ∀ d,H2 d=none→D.nx σ (upd (upd H2 d (.xd [(f,y)])) a (xn a (.ref C) (some d)))
theorem ps_xset (ha:PE X o ta) (hv:PE X value tv) (hs:swapsWith value (some (.Attribute o f pos')) pos.line X.env=pure false):PS X (.Assign [.Attribute o f pos'] value pos) (sXSet X.K ta tv f):=by
 intro pins s σ H D I h
 refine plainObj_wpAny_Assign_Attribute (thn (hv pins s σ H _ I h) fun u s1 ⟨y,H1,I1,ry,q⟩=>thn (ha pins s1 σ H1 _ I1 q) fun ov s2 ⟨x,H2,I2,rx,a,C,ex,ea,c,q2⟩=>?_) hs
 subst ex
 obtain rfl:ov=Value.ref a:=rx
 obtain ⟨⟨ob,ws,e1,e2,e3,e4,e5⟩,_,_⟩:=(show ObjOk X.prog X.w H2 s2.heap a (xn a (.ref C) none) from I2.hok a _ ea)
 refine PySem.W.set_new I2.kIn c e1 e2 e3 e4 fun h' t' hk hx hn=>?_
 have hfr:H2 s2.heap.objs.size=none:=I2.hok.fresh (Nat.le_refl _)
 have hne:s2.heap.objs.size≠a:=Nat.ne_of_gt (Heap.lt_size e1)
 have oa:(h'.update a fun _=>ob).get? a=some ob:=Heap.get?_update_self _ hx (Obj.isFreed_of_fields e4)
 have oo:∀ b,b≠a→(h'.update a fun _=>ob).get? b=h'.get? b:=fun b hb=>Heap.get?_update_other _ _ (Ne.symm hb)
 have I3:Inv X pins σ (upd H2 s2.heap.objs.size (.xd [(f,y)])) { s2 with heap:=h'.update a fun _=>ob,toks:=t' }:=I2.laid (fun b u z=>by
   by_cases hb:b=a
   ·subst hb;rw [e1] at z;cases z;exact oa
   ·rw [oo b hb];exact hk b u hb z) (Nat.le_refl _) ⟨_,hn.at fun o z=>(oo _ hne).trans z,fun g=>?_⟩
 ·have I4:=I3.write (x:=a) (e:=a) (o:=xn a (.ref C) (some s2.heap.objs.size)) (h':=h') (t':=t') (by rw [upd_ne (Ne.symm hne),ea];exact True.intro) (.inl rfl) (fun b u hb z=>by rw [← oo b hb];exact z) ⟨_,hx⟩ ⟨⟨_,ws,hx,e2,rfl,e4,e5⟩,⟨_,hx⟩,frAt_stay⟩
  exact ⟨σ,_,I4,q2 _ hfr⟩
 ·show RelO (List.lookup g [(f,y)]) (if g=f then some u else none)
  by_cases z:g=f
  ·have hb:(g == f)=true:=beq_iff_eq.mpr z
   simp only [List.lookup,hb,if_pos z]
   exact ry
  ·have hb:(g == f)=false:=beq_eq_false_iff_ne.mpr z
   simp only [List.lookup,hb,if_neg z]
   exact True.intro
end
def sp_init (C:Addr) (fn:Str):Sp:=fun vs H Q _=>∃ a v,vs=[.ref a,v]∧H a=some (xn a (.ref C) none)∧∀ d,H d=none→Q .non (upd (upd H d (.xd [(fn,v)])) a (xn a (.ref C) (some d)))
def delH (H:Hp) (e:Addr):Hp:=fun b=>if b=e then none else H b
theorem delH_ne {H:Hp} {e b:Addr} (h:b≠e):delH H e b=H b:=by unfold delH;rw [if_neg h]
theorem delH_same {H:Hp} {e:Addr}:delH H e e=none:=by unfold delH;rw [if_pos rfl]
def MakesI (X:Cx) (E:XK):Prop:=∀ (pins:List (Addr × Obj)) (σ:St) (H2:Hp) (s2:Shared) (hm:Heap) (H3:Hp) (s3:Shared) (e C:Addr) (od:Option Addr),Inv X pins σ H2 s2→Inv X pins σ H3 s3→s2.heap.get? e=none →
 (∀ b o,s2.heap.get? b=some o→hm.get? b=some o)→Un (frs X.stack) [] (upd H2 e (xn e (.ref C) none)) H3 hm s3.heap→s3.os=s2.os→H3 e=some (xn e (.ref C) od)→E (.ref C) od (delH H3 e)→X.xe (.ref e) s3
section
variable {P:Program} {w:World} {K:PySem.W.Frag} {mg:Str→Option Value} {base:Heap} {N:List Str} {qual:Str} {scope:Scope} {f:Addr} {cd:Value} {A:Around} {outer:List Env} {s:Shared} {H:Hp} {E E1:XK}
theorem makesI_up (hE:∀ c d H',E1 c d H'→E c d H'):MakesI (cxOf (CX1 P w) P w K mg base N qual scope f cd A outer s H E) E1:=by
 intro pins σ H2 s2 hm H3 s3 e C od I2 I3 new keep un os3 he3 q
 obtain ⟨⟨oe,vs,g1,g2,g3,g4,g5⟩,_,_⟩:=(show ObjOk P w H3 s3.heap e (xn e (.ref C) od) from I3.hok e _ he3)
 have ne:∀ b o,s2.heap.get? b=some o→b≠e:=fun b o z y=>by rw [y,new] at z;cases z
 have h2e:H2 e=none:=by
  cases z:H2 e with
  | none=>rfl
  | some o=>
   obtain ⟨ob,hob⟩:=(I2.hok e o z).there
   rw [new] at hob
   cases hob
 have hin:∀ env∈(cxOf (CX1 P w) P w K mg base N qual scope f cd A outer s H E).stack,∀ b,env.frame=some b→b∈e :: frs (cxOf (CX1 P w) P w K mg base N qual scope f cd A outer s H E).stack:=fun env he b hb=>.tail _ (List.mem_filterMap.mpr ⟨env,he,hb⟩)
 have hff:=PySem.W.funFrames_hide I3.stack hin
 have u0:∀ b,b≠e→H2 b=none→upd H2 e (xn e (.ref C) none) b=none:=fun b hb n=>by rw [upd_ne hb];exact n
 have fly0:Fly0 P w (cxOf (CX1 P w) P w K mg base N qual scope f cd A outer s H E).stack H2 s2 (PySem.W.hideAll s3.heap (e :: frs (cxOf (CX1 P w) P w K mg base N qual scope f cd A outer s H E).stack)) (delH H3 e) s3:=by
  refine ⟨fun b o z=>PySem.W.of_hideAll _ z,hff,⟨fun b o z n hb _=>un.keep b o (keep b o z) (u0 b (ne b o z) n) hb (by simp),fun b o z n hb _=>un.slot b o (keep b o z) (u0 b (ne b o z) n) hb (by simp),fun b o z n _=>?_,fun b o z _=>un.there b o (keep b o z) (by simp),fun b xs z=>?_,fun b o y z=>?_,fun b ps z=>?_⟩,fun b o z=>?_,fun b o z=>?_,fun b o z hb=>?_,os3,I3.bare⟩
  ·rw [delH_ne (ne b o z)]
   exact un.free b o (keep b o z) (u0 b (ne b o z) n) (by simp)
  ·have hb:b≠e:=ne_of_none z h2e
   rw [delH_ne hb]
   exact un.tups b xs (by rw [upd_ne hb];exact z)
  ·have hb:b≠e:=ne_of_none z h2e
   rw [delH_ne hb]
   exact un.frzs b o y (by rw [upd_ne hb];exact z)
  ·have hb:b≠e:=ne_of_none z h2e
   rw [delH_ne hb]
   exact un.tbls b ps (by rw [upd_ne hb];exact z)
  ·have hb:b≠e:=fun y=>by rw [y,delH_same] at z;cases z
   rw [delH_ne hb] at z
   exact (I3.hok b o z).stay (fun _ _ _ y=>y) (fun c y=>by rw [delH_ne (fun x=>by rw [x,he3] at y;cases y)];exact y) fun c xs y=>by rw [delH_ne (fun x=>by rw [x,he3] at y;cases y)];exact y
  ·have hb:b≠e:=fun y=>by rw [y,delH_same] at z;cases z
   rw [delH_ne hb] at z
   obtain ⟨ob,hob⟩:=(I3.hok b o z).there
   refine ⟨ob,PySem.W.hideAll_get _ hob fun hm=>?_⟩
   rcases List.mem_cons.mp hm with y | y
   ·exact hb y
   ·rw [I3.stkFree b y] at z;cases z
  ·obtain ⟨o',z'⟩:=un.there b o (keep b o z) (by simp)
   refine ⟨o',PySem.W.hideAll_get _ z' fun hm=>?_⟩
   rcases List.mem_cons.mp hm with y | y
   ·exact ne b o z y
   ·exact hb y
 have newB:(PySem.W.hideAll s3.heap (e :: frs (cxOf (CX1 P w) P w K mg base N qual scope f cd A outer s H E).stack)).get? e=none:=PySem.W.hideAll_none _ (List.mem_cons_self ..)
 refine leaveD0 (cp:=fun v=>v=.none) (s:=s3) I3.ok.frames fly0.ff rfl g1 fly0.st newB g4 g5.1 ⟨_,g5.2.1,rfl⟩ fun h' fl2 up=>?_
 rw [g2,g3] at fl2
 exact ⟨e,.ref C,od,_,delH H3 e,rfl,Fly0.up I2 rfl rfl rfl rfl rfl fly0 fl2 up,delH_same,hE _ _ _ q⟩
end
structure XI (P:Program) (w:World) (K:PySem.W.Frag) (mg:Str→Option Value) (base:Heap) (k:Nat) (C:Addr) (fn:Str):Prop where
 ex:∃ (bm bmN:List Value) (newId Bn inN B nid initId:String) (fI:Addr) (fd:FuncData) (ps:List Str),XOut K C bm newId∧ExcBaseFacts Bn newId inN bmN∧bm.contains (.type Bn)=true∧ExcBaseFacts B nid initId bm ∧
  PySem.W.findIn K (.ref C) "__init__" = some (some (.ref fI))∧PySem.W.typeIn K (.ref fI)=some (.type "function")∧FnOk P w K mg base CX0 k fI fd ps (sp_init C fn)∧Binds K fd ps []
section
variable {X:Cx} {x:Str} {np cpos pos:Pos} {e₀:Expr} {t:TA} {C:Addr} {fn:Str} {k:Nat} {E:XK}
def tRaiseI (C:Addr) (fn:Str) (E:XK) (t:TA):TS:=fun _ σ H=>t σ H fun vs H1=>vs.length≤sizeLine∧∃ v,vs=[v]∧∀ d,H1 d=none→E (.ref C) (some d) (upd H1 d (.xd [(fn,v)]))
theorem ps_raiseI (c:XI X.prog X.w X.K X.mg X.base k C fn) (hr:Room (k + 1) X.A) (hc:X.calm=true) (hg:Gl X x) (hm:X.mg x=some (.ref C)) (hx:MakesI X E) (ha:PA X [e₀] t)
  (hd:(x == ("__debug__":Str))=false:=by decide +kernel) (he:starEach [e₀] X.env=(false,eval e₀ X.env) :: starEach [] X.env:=by rfl) (hpl:(backTo cpos (starEach [] X.env)).any (·.1)=false:=by rfl) :
  PS X (.Raise (some (.Call (.Name x np) [e₀] [] cpos)) none pos) (tRaiseI C fn E t):=by
 obtain ⟨bmB,bmN,newId,Bn,inN,B,nid,initId,fI,fd,ps,c1,c2,c3,c4,hi,hf,F,hb⟩:=c.ex
 intro pins s σ H D I h
 obtain ⟨tl,N,nm,q,bs,hdct,sn,sub,ab,col,dd,k0,k1,k2,k3,k5,hC,T,_⟩:=c1.obj I.mod.kin
 refine Raise_call_initU (K:=X.K) (fI:=fI) (C:=C) (nm:=nm) (q:=q) (N:=N) (bs:=bs) (bm:=tl) (hdct:=hdct) (sn:=sn) (sub:=sub) (ab:=ab) (col:=col) (dd:=dd) (k0:=k0) (k1:=k1) (k2:=k2) (k3:=k3) (k5:=k5)
  c2 c3 c4 (T.hasType c4.hasBase) (I.ok.hd hc) (by rw [he];show (false || (backTo cpos (starEach [] X.env)).any (·.1))=false;rw [hpl];rfl) hi hf (ld_glob I hg hm ⟨rfl,?_⟩ hd)
 rw [he]
 have ha':=ha cpos pins s σ H _ I h
 rw [he] at ha'
 refine Calls.evalArgs_plain (wpAny_mono ha' (fun us s₂ ⟨vs,H1,I1,r1,z,v,ev,q1⟩=>⟨rfl,by rw [← r1.length];exact z,I1.bk _ _ hC,I1.kIn,T.keeps I1.bk,fun h' e hx'=>?_⟩) fun _ _ y=>y)
 subst ev
 obtain ⟨u,rfl,ru⟩:=r1.one
 obtain ⟨t0,he0,ht0,htt⟩:=hx'.there
 have ne:∀ b o,s₂.heap.get? b=some o→b≠e:=fun b o z y=>by rw [y,hx'.new] at z;cases z
 have h1e:H1 e=none:=by
  cases z:H1 e with
  | none=>rfl
  | some o=>
   obtain ⟨ob,hob⟩:=(I1.hok e o z).there
   rw [hx'.new] at hob
   cases hob
 have Im:Inv X pins σ (upd H1 e (xn e (.ref C) none)) { s₂ with heap:=h' }:=by
  refine I1.call' (s':={ s₂ with heap:=h' }) (ch:=[]) rfl ⟨fun b o z _ _ _=>hx'.keeps b o z,fun b o z _ _ _=>⟨o.slots,hx'.keeps b o z⟩,fun b o z n _=>by rw [upd_ne (ne b o z)];exact n,fun b o z _=>⟨o,hx'.keeps b o z⟩,fun b xs z=>by rw [upd_ne (ne_of_none z h1e)];exact z,fun b o y z=>by rw [upd_ne (ne_of_none z h1e)];exact z,fun b ps z=>⟨#[],by rw [upd_ne (ne_of_none z h1e),z];simp⟩⟩ (fun b o z=>?_) I1.bare (fun b z=>absurd z (by simp))
  by_cases hb:b=e
  ·subst hb
   rw [upd_same] at z
   cases z
   exact ⟨⟨_,_,he0,rfl,rfl,rfl,rfl,rfl,rfl⟩,⟨_,he0⟩,frAt_stay⟩
  ·rw [upd_ne hb] at z
   exact (I1.hok b o z).stay (fun c u _ y=>hx'.keeps c u y) (fun c y=>by rw [upd_ne (ne_of_none y h1e)];exact y) fun c xs y=>by rw [upd_ne (ne_of_none y h1e)];exact y
 have hsp:sp_init C fn [.ref e,v] (upd H1 e (xn e (.ref C) none)) (fun r H3=>r=.non∧∃ d,H3 e=some (xn e (.ref C) (some d))∧E (.ref C) (some d) (delH H3 e)) (fun _ _ _=>False):=by
  refine ⟨e,v,rfl,upd_same,fun d hd'=>⟨rfl,d,upd_same,?_⟩⟩
  have hde:d≠e:=fun y=>by rw [y,upd_same] at hd';cases hd'
  rw [upd_ne hde] at hd'
  have ee:delH (upd (upd (upd H1 e (xn e (.ref C) none)) d (.xd [(fn,v)])) e (xn e (.ref C) (some d))) e=upd H1 d (.xd [(fn,v)]):=by
   funext b
   by_cases hb:b=e
   ·rw [hb,delH_same,upd_ne (Ne.symm hde)];exact h1e.symm
   ·rw [delH_ne hb,upd_ne hb]
    by_cases hbd:b=d
    ·rw [hbd,upd_same,upd_same]
    ·rw [upd_ne hbd,upd_ne hb,upd_ne hbd]
  rw [ee]
  exact q1 d hd'
 have hl:([Value.ref e,u] ++ []).length=ps.length:=(F.len _ _ _ _ hsp:[V.ref e,v].length=ps.length)
 have r2:Vals [V.ref e,v] [Value.ref e,u]:=.cons rfl (.cons ru .nil)
 refine wpAny_call (codeAny_mono (F.run _ X.stack _ _ ⟨[.ref e,u],[]⟩ [.ref e,u] _ _ _ (hr.make C [u] []) (Im.env0.make C [u] []) (hb _ [Value.ref e,u] Im.kIn hl) r2 hsp) fun r s' hq'=>?_)
 cases r with
 | error ev=>exact False.elim hq'
 | ok fl=>
  cases fl with
  | ret u'=>
   obtain ⟨v',H3,os3,bare3,un3,hok3,rv,ev,d,he3,qE⟩:=hq'
   subst ev
   have I3:=Im.call' (ch:=[]) os3 un3 hok3 bare3 (fun b z=>absurd z (by simp))
   obtain ⟨⟨oe,ws,g1,g2,g3,g4,g5⟩,_,_⟩:=(show ObjOk X.prog X.w H3 s'.heap e (xn e (.ref C) (some d)) from I3.hok e _ he3)
   exact ⟨rv,oe,ws,I3.bk _ _ hC,g1,g2,g4,g5.1,hx pins σ H1 s₂ h' H3 s' e C (some d) I1 I3 hx'.new hx'.keeps un3 os3 he3 qE⟩
  | next=>exact False.elim hq'
  | brk=>exact False.elim hq'
  | cont=>exact False.elim hq'
end
section
variable {X:Cx} {P:Program} {w:World} {e tg:Expr} {tx:TX} {g:TG} {i:Nat} {n x:Str} {D:Addr} {bmD:List Value} {nD:String} {b₀:Stmt} {suite:List Stmt} {apos pos hpos np:Pos} {ts:Addr→TS}
def tTryAsO (K:PySem.W.Frag) (D:Addr) (tx:TX) (g:TG) (i:Nat) (ts:Addr→TS):TS:=fun De σ H=>
 tx σ H (fun v H1=>g v σ H1 De.nx) (fun cls od H'=>∃ C bm nid,cls=.ref C∧XOut K C bm nid∧Under K C D∧∀ ea,H' ea=none →
  ts ea { nx:=fun σ2 H2=>De.nx (σ2.set i none) H2,rt:=De.rt,bk:=fun σ2 H2=>De.bk (σ2.set i none) H2,ct:=fun σ2 H2=>De.ct (σ2.set i none) H2 } (σ.set i (some (.ref ea))) (upd H' ea (xo ea (.ref C) od)))
end
section
variable {X:Cx} {pins:List (Addr × Obj)} {σ:St} {H:Hp} {s:Shared}
end
end L2
namespace PySem.W
open PySem PySem.Spec PySem.Calls PyProof.Rows
section
variable {prog:Program} {w:World} {A:Around} {E:Value→Shared→Prop} {s:Shared} {K:Frag} {x D:Addr} {ox:Obj} {odo:Option Obj} {name:Str}
end
end PySem.W
namespace L2
open PySem PySem.Spec PyProof.Rows
section
variable {X:Cx} {e:Expr} {ta:TE} {f:Str} {pos:Pos}
def tXFld (K:PySem.W.Frag) (ta:TE) (f:Str):TE:=fun σ H Q=>ta σ H fun x H1=>∃ a C d fs v,x=.ref a∧H1 a=some (xo a (.ref C) (some d))∧H1 d=some (.xd fs)∧fs.lookup f=some v∧PySem.W.XTy K C∧PySem.W.hasDictIn K C=true∧NoAttr K C f∧Q v H1
end
end L2
set_option Elab.async false
set_option linter.all false
set_option maxRecDepth 100000
namespace SpM
open PySem
def step (c:Nat) (rows:List (List Nat)) (d:Nat):List (List Nat):=if d=c then rows ++ [[]] else rows.dropLast ++ [rows.getLastD [] ++ [d]]
def parts (c:Nat) (x:List Nat):List (List Nat):=x.foldl (step c) [[]]
end SpM
set_option Elab.async false
set_option linter.all false
namespace SpM
end SpM
set_option Elab.async false
set_option linter.all false
set_option maxRecDepth 100000
namespace PyProof.Rows
open PySem PySem.Spec PySem.Builtin PySem.Builtin.Str
section
variable {prog:Program} {w:World} {A:Around} {E:Value→Shared→Prop} {s:Shared} {x y:Str} {t u:Tok} {Q:Value→Shared→Prop}
end
end PyProof.Rows
namespace L2
open PySem PySem.Spec PyProof.Rows QL
section
variable {X:Cx}
def rSplit:V→List V→Hp→VK→Prop:=fun x xs H Q=>∃ z c,x=.str (tx z)∧xs=[.str ⟨#[c]⟩]∧z.length≤1000∧∀ p,H p=none→Q (.ref p) (upd H p (.lst (rowsV (SpM.parts c z))))
end
end L2
set_option Elab.async false
set_option linter.all false
set_option maxRecDepth 100000
namespace L2
open PySem PySem.Spec PyProof.Rows
structure ClsFn (K:PySem.W.Frag) (C:Addr) (m:Str) (f:Addr):Prop where
 sp:PySem.W.specialIn K (.ref C) "__getattribute__" = some (some (.builtin "type.__getattribute__"))
 rd:PySem.W.readsIn K C (.type "type")=true
 fi:PySem.W.findCls K (.ref C) (.type "type") m=some (.val (.ref f))
 kp:PySem.W.keepIn K (.ref f)=true
section
variable {X:Cx} {CX:CXT} {k:Nat} {f C:Addr} {fd:FuncData} {ps:List Str} {sp:Sp} {E:XK} {x m:Str} {p pos apos:Pos} {e:Expr} {es:List Expr} {t:TA}
theorem pe_clsfn {pl:Sem Bool} (c:ClsFn X.K C m f) (F:FnOk X.prog X.w X.K X.mg X.base CX k f fd ps sp) (hr:Room k X.A) (hg:Gl X x) (hm:X.mg x=some (.ref C)) (hb:Binds X.K fd ps []) (hx:Passes CX X E) (ha:PA X (e :: es) t)
  (hdb:(x == ("__debug__":Str))=false:=by decide +kernel) (hst:starEach (e :: es) X.env=(false,eval e X.env) :: starEach es X.env:=by rfl) (hpl:(backTo pos (starEach es X.env)).any (·.1)=false:=by rfl)
  (ht:eval (.Call (.Attribute (.Name x p) m apos) (e :: es) [] pos) X.env=(do
   let ov ← eval (.Name x p) X.env
   standAt apos.atName
   let (f,first) ← holding [ov] (getMethod ov m pl)
   callWith pos f first (backTo pos (starEach (e :: es) X.env)) (backToKw pos (keywordEach [] X.env))):=by rfl) :
  PE X (.Call (.Attribute (.Name x p) m apos) (e :: es) [] pos) (tCall sp [] E t):=by
 intro pins s σ H Q I h
 refine PySem.W.methodCall_KW (pl:=pl) (ld_glob I hg hm ?_ hdb) ht
 refine PySem.W.method_cls I.kIn c.sp (PySem.W.cls_value I.kIn c.rd c.fi rfl ?_)
 have I1:=I.tok (s.toks + 1)
 refine PySem.W.callWith_K (first:=[]) (h₀:=X.base) I.ok.mod.kin c.kp (thn (ha pos pins _ σ H _ I1 h) fun us s2 ⟨vs,H2,I2,r,q2⟩=>⟨I2.kIn,?_⟩) hst hpl
 exact run_fn F hr hb .nil hx I2 r q2
end
end L2
set_option Elab.async false
set_option linter.all false
set_option maxRecDepth 100000
namespace L2
open PySem PySem.Spec PyProof.Rows
section
variable (P:Program) (w:World) (K:PySem.W.Frag) (mg:Str→Option Value) (base:Heap) (CX:CXT)
structure CalC (k:Nat) (x m:Str) (ps:List Str) (sp:Sp):Prop where
 ex:∃ (C f:Addr) (fd:FuncData),FnOk P w K mg base CX k f fd ps sp∧mg x=some (.ref C)∧ClsFn K C m f∧Binds K fd ps []
structure CalK (k:Nat) (x:Str) (C:Addr) (ps:List Str) (sp:Sp):Prop where
 ex:∃ (f:Addr) (fd:FuncData),FnOk P w K mg base CX k f fd ps sp∧mg x=some (.ref C)∧Mk K C f∧Binds K fd ps []
structure CalM (k:Nat) (C:Addr) (m:Str) (ps:List Str) (sp:Sp):Prop where
 ex:∃ (f:Addr) (fd:FuncData),FnOk P w K mg base CX k f fd ps sp∧Cls K C∧Meth K C m f∧Binds K fd ps []
end
section
variable {X:Cx} {CX:CXT} {k:Nat} {C:Addr} {ps:List Str} {sp:Sp} {E:XK} {x m:Str} {p pos apos:Pos} {e o:Expr} {es:List Expr} {t:TA} {ta:TE}
theorem pe_calC {pl:Sem Bool} (c:CalC X.prog X.w X.K X.mg X.base CX k x m ps sp) (hr:Room k X.A) (hg:Gl X x) (hx:Passes CX X E) (ha:PA X (e :: es) t)
  (hdb:(x == ("__debug__":Str))=false:=by decide +kernel) (hst:starEach (e :: es) X.env=(false,eval e X.env) :: starEach es X.env:=by rfl) (hpl:(backTo pos (starEach es X.env)).any (·.1)=false:=by rfl)
  (ht:eval (.Call (.Attribute (.Name x p) m apos) (e :: es) [] pos) X.env=(do
   let ov ← eval (.Name x p) X.env
   standAt apos.atName
   let (f,first) ← holding [ov] (getMethod ov m pl)
   callWith pos f first (backTo pos (starEach (e :: es) X.env)) (backToKw pos (keywordEach [] X.env))):=by rfl) :
  PE X (.Call (.Attribute (.Name x p) m apos) (e :: es) [] pos) (tCall sp [] E t):=by
 obtain ⟨C,f,fd,F,hm,cf,hb⟩:=c.ex
 exact pe_clsfn cf F hr hg hm hb hx ha hdb hst hpl ht
theorem pe_calK (c:CalK X.prog X.w X.K X.mg X.base CX k x C ps sp) (hr:Room (k + 1) X.A) (hg:Gl X x) (hx:Passes CX X E) (ha:PA X (e :: es) t)
  (hdb:(x == ("__debug__":Str))=false:=by decide +kernel) (hst:starEach (e :: es) X.env=(false,eval e X.env) :: starEach es X.env:=by rfl) (hpl:(backTo pos (starEach es X.env)).any (·.1)=false:=by rfl) :
  PE X (.Call (.Name x p) (e :: es) [] pos) (tMake C sp [] E t):=by
 obtain ⟨f,fd,F,hm,M,hb⟩:=c.ex
 exact pe_make M F hr hg hm hb .nil hx ha hdb hst hpl
theorem pe_calM {pl:Sem Bool} (c:CalM X.prog X.w X.K X.mg X.base CX k C m ps sp) (hr:Room k X.A) (hx:Passes CX X E) (he:PE X o ta) (ha:PA X (e :: es) t)
  (hst:starEach (e :: es) X.env=(false,eval e X.env) :: starEach es X.env:=by rfl) (hpl:(backTo pos (starEach es X.env)).any (·.1)=false:=by rfl)
  (ht:eval (.Call (.Attribute o m apos) (e :: es) [] pos) X.env=(do
   let ov ← eval o X.env
   standAt apos.atName
   let (f,first) ← holding [ov] (getMethod ov m pl)
   callWith pos f first (backTo pos (starEach (e :: es) X.env)) (backToKw pos (keywordEach [] X.env))):=by rfl) :
  PE X (.Call (.Attribute o m apos) (e :: es) [] pos) (tMeth C m sp [] E ta t):=by
 obtain ⟨f,fd,F,cl,hm,hb⟩:=c.ex
 exact pe_meth he cl hm F hr hb .nil hx ha hst hpl ht
theorem pe_calM0 {pl:Sem Bool} (c:CalM X.prog X.w X.K X.mg X.base CX k C m ps sp) (hr:Room k X.A) (hx:Passes CX X E) (he:PE X o ta)
  (ht:eval (.Call (.Attribute o m apos) [] [] pos) X.env=(do
   let ov ← eval o X.env
   standAt apos.atName
   let (f,first) ← holding [ov] (getMethod ov m pl)
   callWith pos f first (backTo pos (starEach [] X.env)) (backToKw pos (keywordEach [] X.env))):=by rfl) :
  PE X (.Call (.Attribute o m apos) [] [] pos) (tMeth C m sp [] E ta tNil):=by
 obtain ⟨f,fd,F,cl,hm,hb⟩:=c.ex
 exact pe_meth0 he cl hm F hr hb .nil hx ht
end
end L2
set_option Elab.async false
set_option linter.all false
set_option maxRecDepth 100000
namespace L2
open PySem PySem.Spec PyProof.Rows
section
variable {g:TG} {ti:TT} {te:TE} {σ:St} {H:Hp} {Q:List V→Hp→Prop}
theorem comp_str {x:Str} (Pv:Nat→List V→St→Hp→Prop) (h0:Pv 0 [] σ H) (hz:∀ i acc σ H,Pv i acc σ H→acc.length < sizeLine) (hi:∀ i acc σ H,Pv i acc σ H→i≤x.cps.size)
  (hs:∀ i c acc σ H,x.cps[i]?=some c→Pv i acc σ H→g (.str ⟨#[c]⟩) σ H fun σ2 H3=>ti σ2 H3 fun b H4=>if b=true then te σ2 H4 fun v H5=>Pv (i + 1) (acc ++ [v]) σ2 H5 else Pv (i + 1) acc σ2 H4)
  (he:∀ acc σ H,Pv x.cps.size acc σ H→Q acc H):CompW (Its x) g ti te σ H Q:=by
 exact comp_by (J:=Its x) (g:=g) (ti:=ti) (te:=te) (Q:=Q) (n:=x.cps.size) Pv h0 hz hi (fun acc σ H w=>Nat.le_refl _) (fun i acc σ H hlt w=>hlt)
  (fun i v acc σ H H2 hlt w y=>by obtain ⟨rfl,c,hc,rfl⟩:=y;exact hs i c acc σ H2 hc w) he
end
section
variable {X:Cx} {e:Expr} {tx:TX} {i:Nat} {n x:Str} {D:Addr} {bmD:List Value} {nD:String} {b₀:Stmt} {suite:List Stmt} {epos pos hpos np:Pos} {ts:Addr→TS}
def tTryEx (K:PySem.W.Frag) (D:Addr) (tx:TX) (i:Nat) (ts:Addr→TS):TS:=fun De σ H=>
 tx σ H (fun _ H1=>De.nx σ H1) (fun cls od H'=>∃ C bm nid,cls=.ref C∧XCls K C bm nid∧Under K C D∧∀ ea,H' ea=none →
  ts ea { nx:=fun σ2 H2=>De.nx (σ2.set i none) H2,rt:=De.rt,bk:=fun σ2 H2=>De.bk (σ2.set i none) H2,ct:=fun σ2 H2=>De.ct (σ2.set i none) H2 } (σ.set i (some (.ref ea))) (upd H' ea (xo ea (.ref C) od)))
end
end L2
set_option Elab.async false
set_option linter.all false
set_option maxRecDepth 100000
namespace L2
open PySem PySem.Spec PyProof.Rows
section
variable (P:Program) (w:World) (K:PySem.W.Frag) (mg:Str→Option Value) (base:Heap) (CX:CXT)
structure CalP (k:Nat) (m:Str) (os:List (Addr × Sp)):Prop where
 ex:∀ o∈os,∃ ps,CalM P w K mg base CX k o.1 m ps o.2
end
def tMethP (m:Str) (os:List (Addr × Sp)) (E:XK) (ta:TE) (t:TA):TE:=fun σ H Q=>ta σ H fun x H1=>∃ o∈os,∃ a dx fs,x=.ref a∧H1 a=some (.ins o.1 dx fs)∧fs.lookup m=none ∧
 t σ H1 fun vs H2=>o.2 (x :: (vs ++ [])) H2 Q E
section
variable {X:Cx} {CX:CXT} {k:Nat} {os:List (Addr × Sp)} {E:XK} {m:Str} {pos apos:Pos} {e o:Expr} {es:List Expr} {t:TA} {ta:TE}
theorem pe_calP {pl:Sem Bool} (c:CalP X.prog X.w X.K X.mg X.base CX k m os) (hr:Room k X.A) (hx:Passes CX X E) (he:PE X o ta) (ha:PA X (e :: es) t)
  (hst:starEach (e :: es) X.env=(false,eval e X.env) :: starEach es X.env:=by rfl) (hpl:(backTo pos (starEach es X.env)).any (·.1)=false:=by rfl)
  (ht:eval (.Call (.Attribute o m apos) (e :: es) [] pos) X.env=(do
   let ov ← eval o X.env
   standAt apos.atName
   let (f,first) ← holding [ov] (getMethod ov m pl)
   callWith pos f first (backTo pos (starEach (e :: es) X.env)) (backToKw pos (keywordEach [] X.env))):=by rfl) :
  PE X (.Call (.Attribute o m apos) (e :: es) [] pos) (tMethP m os E ta t):=by
 intro pins s σ H Q I h
 refine PySem.W.methodCall_KW (pl:=pl) (thn (he pins s σ H _ I h) fun u s1 ⟨x,H1,I1,rx,oc,ho,a,dx,fs,ex,ea,l,q⟩=>?_) ht
 subst ex
 obtain rfl:u=Value.ref a:=rx
 obtain ⟨ps,cm⟩:=c.ex oc ho
 obtain ⟨f,fd,F,cl,hm,hb⟩:=cm.ex
 refine getmeth_ok I1 ea cl hm l ?_
 refine PySem.W.callWith_K (first:=[.ref a]) (h₀:=X.base) I.ok.mod.kin hm.kp (thn (ha pos pins s1 σ H1 _ I1 q) fun us s2 ⟨vs,H2,I2,r,q2⟩=>⟨I2.kIn,?_⟩) hst hpl
 exact run_fn (us:=.ref a :: us) (vs:=.ref a :: vs) F hr hb .nil hx I2 (.cons rfl r) q2
theorem pe_calP0 {pl:Sem Bool} (c:CalP X.prog X.w X.K X.mg X.base CX k m os) (hr:Room k X.A) (hx:Passes CX X E) (he:PE X o ta)
  (ht:eval (.Call (.Attribute o m apos) [] [] pos) X.env=(do
   let ov ← eval o X.env
   standAt apos.atName
   let (f,first) ← holding [ov] (getMethod ov m pl)
   callWith pos f first (backTo pos (starEach [] X.env)) (backToKw pos (keywordEach [] X.env))):=by rfl) :
  PE X (.Call (.Attribute o m apos) [] [] pos) (tMethP m os E ta tNil):=by
 intro pins s σ H Q I h
 refine PySem.W.methodCall_KW (pl:=pl) (thn (he pins s σ H _ I h) fun u s1 ⟨x,H1,I1,rx,oc,ho,a,dx,fs,ex,ea,l,q⟩=>?_) ht
 subst ex
 obtain rfl:u=Value.ref a:=rx
 obtain ⟨ps,cm⟩:=c.ex oc ho
 obtain ⟨f,fd,F,cl,hm,hb⟩:=cm.ex
 refine getmeth_ok I1 ea cl hm l ?_
 exact PySem.W.callWith_K0 (first:=[.ref a]) I1.kIn hm.kp (run_fn (us:=[.ref a]) (vs:=[.ref a]) F hr hb .nil hx I1 (.cons rfl .nil) q)
end
structure ICls (K:PySem.W.Frag) (C:Addr):Prop where
 cl:Cls K C
 ha:PySem.W.findIn K (.ref C) "__class__" = some (some (.builtin "object.__class__"))
 hn:PySem.W.specialIn K (.builtin "object.__class__") "__get__" = some (some (.builtin "getset_descriptor.__get__"))
 htk:PySem.W.takesIn K (.builtin "object.__class__")=some true
 hm:PySem.W.mroIn K C (.type "object")=some true
theorem ICls.ty {K:PySem.W.Frag} {C a dx:Addr} {H:Hp} {fs:List (Str × V)} (i:ICls K C) (e:H a=some (.ins C dx fs)):TyOf K H (.ref a) (.ref C):=.ins e i.cl i.ha i.hn i.htk i.hm
def tMethX (m:Str) (os:List (Addr × Sp)) (ta:TE) (t:TA):TX:=fun σ H Q E=>ta σ H fun x H1=>∃ o∈os,∃ a dx fs,x=.ref a∧H1 a=some (.ins o.1 dx fs)∧fs.lookup m=none ∧
 t σ H1 fun vs H2=>o.2 (x :: vs) H2 Q E
section
variable {X:Cx} {CX:CXT} {k:Nat} {os:List (Addr × Sp)} {m:Str} {pos apos:Pos} {e o:Expr} {es:List Expr} {t:TA} {ta:TE}
end
section
variable {X:Cx} {es:List Expr} {t:TA}
theorem pa_consS {x j p} (hr:PA X es t):PA X (.Constant (.str x) j p :: es) (tCons (tC (.str x)) t):=pa_cons pe_str hr rfl
theorem pa_consI {x j p} (hr:PA X es t):PA X (.Constant (.int x) j p :: es) (tCons (tC (.int x)) t):=pa_cons pe_int hr rfl
end
end L2
set_option Elab.async false
set_option linter.all false
set_option maxRecDepth 100000
namespace PyProof.Rows
open PySem PySem.Spec PySem.Builtin PySem.Builtin.Str
section
variable {prog:Program} {w:World} {A:Around} {E:Value→Shared→Prop} {s:Shared} {x y:Str} {t u:Tok} {Q:Value→Shared→Prop}
end
end PyProof.Rows
namespace L2
open PySem PySem.Spec PyProof.Rows QL
section
variable {X:Cx}
def rPart:V→List V→Hp→VK→Prop:=fun x xs H Q=>∃ z y,x=.str z∧xs=[.str y]∧(y.length == 0)=false∧z.length≤sizeLine∧∀ p,H p=none→Q (.ref p) (upd H p (.tup [.str (Txt.partition z y).1,.str (Txt.partition z y).2.1,.str (Txt.partition z y).2.2]))
def rStarts:V→List V→Hp→VK→Prop:=fun x xs H Q=>∃ z y,x=.str z∧xs=[.str y]∧Q (.bl (Txt.startswith z y)) H
def rEnds:V→List V→Hp→VK→Prop:=fun x xs H Q=>∃ z y,x=.str z∧xs=[.str y]∧Q (.bl (Txt.endswith z y)) H
end
section
variable {X:Cx}
def rIntT:List V→Hp→VK→Prop:=fun xs H Q=>∃ z n,xs=[.str z]∧PySem.intText? z=some n∧z.length≤640∧Q (.int n) H
def rListS:List V→Hp→VK→Prop:=fun xs H Q=>∃ z,xs=[.str z]∧z.length≤sizeLine∧∀ l,H l=none→Q (.ref l) (upd H l (.lst (z.cps.toList.map fun c=>V.str ⟨#[c]⟩)))
end
end L2
set_option Elab.async false
set_option linter.all false
set_option maxRecDepth 100000
namespace L2
open PySem PySem.Spec PyProof.Rows
section
variable {X:Cx} {pins:List (Addr × Obj)} {σ:St} {H:Hp} {s:Shared} {a:Addr} {kvs:List (Key × V)} {k:Key} {u r:Value} {d:V} {A:Around} {E:Value→Shared→Prop}
theorem d_setdef {Q:Value→Shared→Prop} (I:Inv X pins σ H s) (e:H a=some (.dK kvs)) (ry:RelV (kV k) u) (rd:RelV d r) (hl:kvs.length < sizeLine)
  (h1:∀ v w' s',valV kvs k=some v→Inv X pins σ H s'→RelV v w'→Q w' s') (h2:valV kvs k=none→∀ s',Inv X pins σ (upd H a (.dK (putK kvs k d))) s'→Q r s') :
  wpAny (model X.prog X.w) A (call (.builtin "dict.setdefault") [.ref a,u,r]) Q E s:=by
 obtain ⟨z,hd,vs,rel,dd⟩:=dk_of I.hok e
 have hz:vs.length≤sizeLine:=by rw [← rel.length];exact z
 have hl':(putK kvs k d).length≤sizeLine:=by have:=length_putK kvs k d;omega
 refine call_meetsIn PySem.F.slot_dict_setdefault dd.typeIs PySem.F.entry_dict_setdefault (PySem.F.args_dict_setdefault_3 _ _ _) (kt_meets_setdefault (mixKind X.prog X.w) a (kV_is ry) hd r) ⟨vs,dd,hz,fun v hv=>?_,fun hn h' dd' hs=>?_⟩
 ·have q:=rel.val k
  rw [hv] at q
  cases hvv:valV kvs k with
  | none=>rw [hvv] at q;exact False.elim q
  | some v0=>rw [hvv] at q;exact h1 v0 v _ hvv (I.tok _) q
 ·have q:=rel.val k
  rw [hn] at q
  have hvv:valV kvs k=none:=by
   cases hvv:valV kvs k with
   | none=>rfl
   | some v0=>rw [hvv] at q;exact False.elim q
  have he:∃ q,h'.get? a=some q:=let ⟨q,_,_,hq,_⟩:=dd';⟨q,hq⟩
  exact h2 hvv _ (d_write I (by rw [e];exact True.intro) hs he (dk_new hl' hd (rel.put k rd) dd'))
end
def tDSetdef (td ty tx:TE):TE:=fun σ H Q=>td σ H fun x H1=>∃ a,x=.ref a∧IsD H1 a∧ty σ H1 fun y H2=>tx σ H2 fun z H3=>∃ kvs k,H3 a=some (.dK kvs)∧y=kV k∧kvs.length < sizeLine ∧
 (∀ v,valV kvs k=some v→Q v H3)∧(valV kvs k=none→Q z (upd H3 a (.dK (putK kvs k z))))
section
variable {X:Cx} {o e f:Expr} {apos cpos:Pos} {td ty tx:TE}
theorem pe_dsetdef (ho:PE X o td) (he:PE X e ty) (hf:PE X f tx) (m:M2 X o "setdefault" apos e f cpos):PE X (.Call (.Attribute o "setdefault" apos) [e,f] [] cpos) (tDSetdef td ty tx):=by
 intro pins s σ H Q I h
 refine wpAny_Call_method m.base m.few m.line PySem.F.plainAttrs_dict PySem.F.slot_dict_setdefault PySem.F.type_dict_setdefault (thn (ho pins s σ H _ I h) fun u s1 ⟨x,H1,I1,rx,a,ex,d,q1⟩=>?_)
 subst ex
 obtain rfl:u=Value.ref a:=rx
 obtain ⟨t1,t2,_⟩:=isD_at I1 d
 refine ⟨t1,t2,?_⟩
 rw [m.trees]
 refine Calls.callWith_builtin rfl (Calls.evalArgs_plain (Calls.spliced_cons (thn (he pins s1 σ H1 _ I1 q1) fun iv s2 ⟨y,H2,I2,ry,q2⟩=>
  Calls.spliced_cons (thn (hf pins s2 σ H2 _ I2 q2) fun fv s3 ⟨z,H3,I3,rz,kvs,k,hH,ey,hlen,g1,g2⟩=>Calls.spliced_nil ?_))))
 subst ey
 exact d_setdef I3 hH ry rz hlen (fun v w' s4 hv I4 rv=>⟨v,H3,I4,rv,g1 v hv⟩) fun hn s4 I4=>⟨z,_,I4,rz,g2 hn⟩
end
end L2
set_option Elab.async false
set_option linter.all false
set_option maxRecDepth 100000
namespace L2
open PySem PySem.Spec PyProof.Rows
section
variable {X:Cx}
def rListD:List V→Hp→VK→Prop:=fun xs H Q=>∃ a kvs,xs=[.ref a]∧H a=some (.dK kvs)∧∀ l,H l=none→Q (.ref l) (upd H l (.lst (kvs.map fun kv=>kV kv.1)))
end
end L2
set_option Elab.async false
set_option linter.all false
set_option maxRecDepth 100000
namespace L2
open PySem PySem.Spec PyProof.Rows
section
variable {K:Type} [DecidableEq K]
def metStep (σ:List K) (v:K):List K:=if v∈σ then σ else σ ++ [v]
def met (l:List K):List K:=l.foldl metStep []
theorem metStep_mem (σ:List K) (v k:K):decide (k∈metStep σ v)=(decide (k∈σ) || decide (k=v)):=by
 unfold metStep
 by_cases h:v∈σ
 ·rw [if_pos h]
  by_cases e:k=v
  ·subst e;simp [h]
  ·simp [e]
 ·rw [if_neg h]
  simp [List.mem_append]
theorem metStep_len (σ:List K) (v:K):(metStep σ v).length=if decide (v∈σ) then σ.length else σ.length + 1:=by
 unfold metStep
 by_cases h:v∈σ <;> simp [h]
theorem met_snoc (l:List K) (v:K):met (l ++ [v])=metStep (met l) v:=by unfold met;rw [List.foldl_append];rfl
theorem fold_le:∀ (l σ:List K),(l.foldl metStep σ).length≤σ.length + l.length
 | [],σ=>Nat.le_refl _
 | v :: l,σ=>by
  have h:=fold_le l (metStep σ v)
  have e:=metStep_len σ v
  rw [List.foldl_cons,List.length_cons]
  split at e <;> omega
theorem met_le (n:Nat) (l:List K) (h:l.length=n):(met l).length≤n:=by
 have:=fold_le l []
 rw [← h];unfold met;simpa using this
end
section
variable {prog:Program} {w:World} {K:Type} [DecidableEq K] {knd:KeyKind prog w K} {A:Around} {R:Result→Shared→Prop} {I:Addr} {fp wr:List Addr} {G:Array GenState→Array GenState→Prop} {n:Nat} {P:Nat→Value→Prop} {St:Nat→Shared→Prop}
theorem setLoop (W:WalksS prog w A.in1 I fp wr G n P St) (S:Addr) (hSf:S ∉ fp) (l:List K) (hl:l.length=n)
  (hval:∀ i v,P i v→∃ k,l[i]?=some k∧knd.is k v=true∧v.scannable=true) (hb:n + 1 < scanBound) :
  ∀ (k i:Nat) (s:Shared),n - i=k→i≤n→St i s →
   s.heap.SetOf knd S (fun k'=>decide (k'∈met (l.take i))) (met (l.take i)).length →
   (∀ s',Moved (S :: wr) G s s'→s'.heap.SetOf knd S (fun k'=>decide (k'∈met l)) (met l).length→R (.ok (.ret .none)) s') →
   codeAny (model prog w) A (.builtin "set.update.loop" ⟨[.ref S,.ref I],[]⟩) R s:=by
 have hSw:S ∉ wr:=fun h=>hSf (W.sub _ h)
 have hsub:∀ b∈wr,b∈S :: wr:=fun b hb=>List.mem_cons_of_mem _ hb
 intro k
 induction k with
 | zero=>
  intro i s hk hi hst hS hR
  have hin:i=n:=by omega
  subst hin
  rw [← hl,List.take_length] at hS
  refine codeAny_builtin F.entry_set_update_loop ?_
  rw [Around.under_plainId F.plain_set_update_loop _]
  show wpAny _ A.in1 (pyNext (.ref I) >>= _) _ _ s
  refine wpAny_bind (W.done s _ _ hst fun s' hm=>?_)
  show wpAny _ A.in1 (ret Value.none) _ _ s'
  refine wpAny_pure (hR s' (hm.mono hsub) ?_)
  obtain ⟨o,es,ep,t,ho,rest⟩:=hS
  exact ⟨o,es,ep,t,hm.heap S _ hSw ho,rest⟩
 | succ k ih=>
  intro i s hk hi hst hS hR
  have hlt:i < n:=by omega
  refine codeAny_builtin F.entry_set_update_loop ?_
  rw [Around.under_plainId F.plain_set_update_loop _]
  show wpAny _ A.in1 (pyNext (.ref I) >>= _) _ _ s
  refine wpAny_bind (W.item i s _ _ hlt hst fun v s' hP hst' hm=>?_)
  obtain ⟨key,hkey,his,hsc⟩:=hval i v hP
  have hS':s'.heap.SetOf knd S (fun k'=>decide (k'∈met (l.take i))) (met (l.take i)).length:=by
   obtain ⟨o,es,ep,tb,ho,rest⟩:=hS
   exact ⟨o,es,ep,tb,hm.heap S _ hSw ho,rest⟩
  show wpAny _ A.in1 (holding [v] (setAdd S v) >>= _) _ _ s'
  refine wpAny_bind (wpAny_holding ?_)
  unfold setAdd
  refine wpAny_holding ?_
  refine wpAny_bind (knd.pyHash (k:=key) his ?_)
  have hroom:(met (l.take i)).length + 1 < scanBound:=by have:=met_le i (l.take i) (by rw [List.length_take];omega);omega
  refine wpAny_setAddHashed_of (knd:=knd) (s:={ s' with toks:=s'.toks + 1 }) his hsc hS' hroom fun h' hsb hS2=>?_
  have ht:l.take (i + 1)=l.take i ++ [key]:=by rw [List.take_add_one,hkey];rfl
  have hSi:h'.SetOf knd S (fun k'=>decide (k'∈met (l.take (i + 1)))) (met (l.take (i + 1))).length:=
   SetOf_congr hS2 (fun k'=>by rw [ht,met_snoc,metStep_mem]) (by rw [ht,met_snoc,metStep_len])
  refine wpAny_pure ⟨plainId_quiet F.plain_set_update_loop _,ih (i + 1) _ (by omega) hlt (W.frame _ s' _ _ hst' (Nat.le_succ _) fun b hb o e=>?_) hSi fun s'' hm'' hS''=>?_⟩
  ·rw [hsb.2 b (fun h:b=S=>hSf (by rw [← h];exact hb))];exact e
  ·refine hR s'' (Moved.trans W.gtrans ((hm.mono hsub).then_heap (Nat.le_succ _) fun b o hb e=>?_) hm'') hS''
   rw [hsb.2 b (fun h:b=S=>hb (by rw [h];exact List.mem_cons_self))];exact e
end
end L2
set_option Elab.async false
set_option linter.all false
set_option maxRecDepth 100000
namespace L2
open PySem PySem.Spec PyProof.Rows
def signsOf (z:Str):List Str:=z.cps.toList.map fun c=>(⟨#[c]⟩:Str)
section
variable {prog:Program} {w:World} {A:Around} {E:Value→Shared→Prop} {s:Shared}
set_option maxHeartbeats 3200000 in
theorem call_set_text {x:Str} {t:Tok} {Q:Value→Shared→Prop} (hh:A.handled=none) (hb:x.cps.size + 1 < scanBound)
  (h:∀ (h':Heap) (tk:Nat),h'.SetOf (strKind prog w) s.heap.objs.size (fun k'=>decide (k'∈met (signsOf x))) (met (signsOf x)).length →
   (∀ b o,s.heap.get? b=some o→h'.get? b=some o)→Q (.ref s.heap.objs.size) { s with heap:=h',toks:=tk }) :
  wpAny (model prog w) A (call (.type "set") [.str x t]) Q E s:=by
 obtain ⟨c,tl,hmro⟩:=PySem.F.called_set.mro
 have hmade:=PySem.F.called_set.made
 have hsub:=PySem.F.called_set.sub
 refine wpAny_call (codeAny_of_tree ?_)
 show wpAny _ _ (callAny (.type "set") _) _ _ _
 refine wpAny_pure ⟨Code.quiet_builtin _ (by decide +kernel),codeAny_builtin PySem.F.entry_type_call ?_⟩
 rw [Around.under_plain (weight_type_call_type "set" [.str x t] []) rfl]
 have h1:=PySem.F.called_set.notType
 have h2:=PySem.F.called_set.canCreate
 have hct:=PySem.F.typeCall_set_1 (.str x t)
 repeat (any_goals (first | assumption | wp_step))
 refine codeAny_mono (code_set_new_1 (.str x t) (E:=E) (Q₁:=fun obj s₁=>∃ led:Bool,obj=.ref s.heap.objs.size∧s₁={ s with heap:=s.heap.push { cls:=.type "set",dict:=none,data:=.set #[] 0 (.fresh 0 0 led) } }) fun led=>⟨led,rfl,rfl⟩) fun r s₁ hr=>?_
 cases r with
 | error e=>exact hr
 | ok fl=>
  cases fl with
  | ret obj=>
   obtain ⟨led,rfl,rfl⟩:=hr
   have hS:(s.heap.push { cls:=.type "set",dict:=none,data:=.set #[] 0 (.fresh 0 0 led) }).get? s.heap.objs.size=some { cls:=.type "set",dict:=none,data:=.set #[] 0 (.fresh 0 0 led) }:=Heap.get?_push_size _ rfl
   have hT:Shared.TypeIs { s with heap:=s.heap.push { cls:=.type "set",dict:=none,data:=.set #[] 0 (.fresh 0 0 led) } } (.ref s.heap.objs.size) "set":=⟨_,hS,rfl⟩
   have hli:=PySem.F.called_set.init.lookup
   have hbi:=PySem.F.called_set.init.bind (.ref s.heap.objs.size)
   repeat (any_goals (first | assumption | wp_step))
   refine codeAny_mono (codeAny_call_builtin (R:=wants (fun r s₂=>r=.none∧∃ h' tk,s₂={ s with heap:=h',toks:=tk } ∧
     h'.SetOf (strKind prog w) s.heap.objs.size (fun k'=>decide (k'∈met (signsOf x))) (met (signsOf x)).length ∧
     (∀ b o,s.heap.get? b=some o→h'.get? b=some o)) E) PySem.F.called_set.init.plain PySem.F.entry_set_init (check_set_init_1 hT ?_)) fun r₂ s₂ hr₂=>?_
   ·have hsls:=PySem.F.sub_str_set
    have hslf:=PySem.F.sub_str_frozenset
    have hne:(Value.type "str" == Value.type "dict")=false:=by decide
    unfold Builtin.«set.__init__» noKeywords Builtin.Frozenset.updateFrom
    generalize hPI:pyIter=PI
    wp_walk
    subst hPI
    refine wpAny_pyIter_str fun o St W hst=>?_
    refine wpAny_bind (wpAny_runValue ?_)
    have hSf:s.heap.objs.size ∉ [(s.heap.push { cls:=.type "set",dict:=none,data:=.set #[] 0 (.fresh 0 0 led) }).objs.size]:=by
     rw [Heap.size_push];simp only [List.mem_singleton]
     exact Nat.ne_of_lt (Nat.lt_succ_self _)
    refine setLoop (knd:=strKind prog w) ((W _ (by simp [hh])).toS) s.heap.objs.size hSf (signsOf x) (by simp [signsOf])
     (fun i v ⟨c,u,hc,hv⟩=>⟨⟨#[c]⟩,by unfold signsOf;rw [List.getElem?_map,Array.getElem?_toList,hc];rfl,by rw [hv];exact strKind_is _ _ _ _,by rw [hv];rfl⟩) hb (x.cps.size - 0) 0 _ (by omega) (Nat.zero_le _) hst ?hS0 ?hR
    case hS0=>
     exact SetOf_congr ((setObjOf_fresh (knd:=strKind prog w) led).setOf (Heap.get?_push_of_some _ hS) (by unfold scanBound;omega)) (fun _=>rfl) rfl
    case hR=>
     intro s' hm hS'
     obtain ⟨h',g',d',tk',os'⟩:=s'
     have eg:g'=s.gens:=hm.gens
     have ed:d'=s.drawn:=hm.drawn
     have eo:os'=s.os:=hm.os
     subst eg;subst ed;subst eo
     show wpAny _ _ _ _ _ _
     refine wpAny_pure ?_
     show wpAny _ _ (ret Value.none) _ _ _
     refine wpAny_pure ⟨rfl,h',tk',rfl,hS',fun b o' e=>?_⟩
     have hb:=Heap.lt_size e
     refine hm.heap b o' ?_ (Heap.get?_push_of_some _ (Heap.get?_push_of_some _ e))
     simp only [List.mem_cons,List.not_mem_nil,or_false,not_or,Heap.size_push]
     exact ⟨Nat.ne_of_lt hb,Nat.ne_of_lt (Nat.lt_succ_of_lt hb)⟩
   ·cases r₂ with
    | error e=>exact hr₂
    | ok fl₂=>
     cases fl₂ with
     | ret r=>
      obtain ⟨rfl,h',tk,rfl,hS',hk'⟩:=hr₂
      repeat (any_goals (first | assumption | wp_step))
      exact h _ _ hS' hk'
     | _=>exact hr₂.elim
  | _=>exact hr.elim
end
def tLenSet (t:TE):TE:=fun σ H Q=>t σ H fun x H1=>∃ z,x=.str z∧z.cps.size + 1 < scanBound∧Q (.int (met (signsOf z)).length) H1
section
variable {X:Cx} {e:Expr} {t:TE} {p p2 pos pos2:Pos}
theorem pe_lenset (hc:X.calm=true) (ha:PE X e t) (g1:Gl X "len") (m1:X.mg "len" = none) (g2:Gl X "set") (m2:X.mg "set" = none)
  (he1:starEach [.Call (.Name "set" p2) [e] [] pos2] X.env=[(false,eval (.Call (.Name "set" p2) [e] [] pos2) X.env)]:=by rfl)
  (he2:starEach [e] X.env=[(false,eval e X.env)]:=by rfl) :
  PE X (.Call (.Name "len" p) [.Call (.Name "set" p2) [e] [] pos2] [] pos) (tLenSet t):=by
 intro pins s σ H Q I h
 have hl:bootBuiltins "len" = some (.builtin "len"):=by decide +kernel
 have hs:bootBuiltins "set" = some (.type "set"):=by decide +kernel
 refine wpAny_Call_Name_kw (ld_blt I g1 m1 hl ?_)
 refine PyProof.Rows.callWith_builtin1 ?_ he1 rfl
 rw [he1]
 show wpAny _ _ (spliced [(false,eval (.Call (.Name "set" p2) [e] [] pos2) X.env)]) _ _ _
 refine Calls.spliced_cons ?_
 refine wpAny_Call_Name_kw (ld_blt (I.tok _) g2 m2 hs ?_)
 refine PyProof.Rows.callWith_type1 ?_ he2 rfl
 rw [he2]
 show wpAny _ _ (spliced [(false,eval e X.env)]) _ _ _
 refine Calls.spliced_cons (thn (ha pins _ σ H _ (I.tok _) h) fun u s1 ⟨x,H1,I1,rx,z,ex,hz,q⟩=>Calls.spliced_nil ?_)
 subst ex
 obtain ⟨tk,rfl⟩:=rx
 refine call_set_text (I.ok.hd hc) hz fun h' tk' hS hk=>Calls.spliced_nil ?_
 obtain ⟨o,ho,hex,es,ep,tb,hd,_,_,hn,hf⟩:=hS.objOf
 have hle:=met_le z.cps.size (signsOf z) (by simp [signsOf])
 have hb:z.cps.size < 4096:=by unfold scanBound at hz;omega
 refine call_len_set ho hex hd hf (by rw [hn];have:((4096:Nat):Int) < 2^63:=(by decide);omega) ?_
 rw [hn]
 exact ⟨.int _,H1,(I1.kept (t':=_) hk),⟨_,rfl⟩,q⟩
end
end L2
set_option Elab.async false
set_option linter.all false
set_option maxRecDepth 100000
namespace L2
open PySem PySem.Spec PyProof.Rows
abbrev NT:=List (Str × Addr × List Nat)
def ntK (t:NT):List (Key × V):=t.map fun x=>(Sum.inr x.1,V.ref x.2.1)
def ntI (ns:List Nat):List V:=ns.map fun (n:Nat)=>V.int (n:Int)
structure NumsAt (H:Hp) (p:Addr) (t:NT):Prop where
 dict:H p=some (.dK (ntK t))
 list:∀ x∈t,H x.2.1=some (.lst (ntI x.2.2))
 apart:(t.map (·.2.1)).Nodup
theorem NumsAt.grow {H H':Hp} {p:Addr} {t:NT} (N:NumsAt H p t) (k:∀ a o,H a=some o→H' a=some o):NumsAt H' p t:=⟨k _ _ N.dict,fun x hx=>k _ _ (N.list x hx),N.apart⟩
theorem nt_val (z:Str):∀ t:NT,valV (ntK t) (.inr z)=(t.find? fun x=>decide (x.1=z)).map fun x=>V.ref x.2.1
 | []=>rfl
 | x :: t=>by
  have ih:=nt_val z t
  unfold ntK at ih ⊢
  rw [List.map_cons,List.find?_cons]
  by_cases e:x.1=z
  ·rw [valV_pos (by rw [e])];simp [e]
  ·rw [valV_neg (fun h=>e (Sum.inr.inj h)),ih];simp [e]
theorem NumsAt.new {H:Hp} {p l:Addr} {t:NT} {z:Str} (N:NumsAt H p t) (hl:H l=none) (hz:valV (ntK t) (.inr z)=none) :
  NumsAt (upd (upd H l (.lst [])) p (.dK (putK (ntK t) (.inr z) (.ref l)))) p (t ++ [(z,l,[])]):=by
 have hpl:p≠l:=fun e=>by have:=N.dict;rw [e,hl] at this;exact nomatch this
 have hx:∀ x∈t,x.2.1≠l∧x.2.1≠p:=fun x hx=>by
  have q:=N.list x hx
  constructor
  ·intro e;rw [e,hl] at q;exact nomatch q
  ·intro e;rw [e,N.dict] at q;exact nomatch q
 refine ⟨?_,fun x h=>?_,?_⟩
 ·rw [upd_same,putK_new _ hz];unfold ntK;rw [List.map_append];rfl
 ·rcases List.mem_append.mp h with h | h
  ·rw [upd_ne (hx x h).2,upd_ne (hx x h).1];exact N.list x h
  ·rw [List.mem_singleton.mp h,upd_ne (Ne.symm hpl),upd_same];rfl
 ·rw [List.map_append]
  refine List.nodup_append.mpr ⟨N.apart,by simp,fun a ha b hb=>?_⟩
  obtain ⟨x,h1,rfl⟩:=List.mem_map.mp ha
  rw [List.map_singleton] at hb
  rw [List.mem_singleton.mp hb]
  exact (hx x h1).1
theorem NumsAt.put {H:Hp} {p:Addr} {t:NT} {i k:Nat} {x:Str × Addr × List Nat} (N:NumsAt H p t) (hi:t[i]?=some x) :
  NumsAt (upd H x.2.1 (.lst (ntI (x.2.2 ++ [k])))) p (t.set i (x.1,x.2.1,x.2.2 ++ [k])):=by
 have hm:x∈t:=List.mem_of_getElem? hi
 have hp:p≠x.2.1:=fun e=>by have:=N.list x hm;rw [← e,N.dict] at this;exact nomatch this
 have hlt:i < t.length:=(List.getElem?_eq_some_iff.mp hi).1
 have hk:ntK (t.set i (x.1,x.2.1,x.2.2 ++ [k]))=ntK t:=by
  unfold ntK
  apply List.ext_getElem?
  intro j
  rw [List.getElem?_map,List.getElem?_map,List.getElem?_set]
  by_cases e:i=j
  ·subst e;rw [if_pos rfl,if_pos hlt,hi];rfl
  ·rw [if_neg e]
 have ha:(t.set i (x.1,x.2.1,x.2.2 ++ [k])).map (·.2.1)=t.map (·.2.1):=by
  apply List.ext_getElem?
  intro j
  rw [List.getElem?_map,List.getElem?_map,List.getElem?_set]
  by_cases e:i=j
  ·subst e;rw [if_pos rfl,if_pos hlt,hi];rfl
  ·rw [if_neg e]
 refine ⟨by rw [upd_ne hp,hk];exact N.dict,fun y hy=>?_,by rw [ha];exact N.apart⟩
 obtain ⟨j,hj⟩:=List.mem_iff_getElem?.mp hy
 rw [List.getElem?_set] at hj
 by_cases e:i=j
 ·rw [if_pos e,if_pos hlt] at hj
  cases hj
  exact upd_same
 ·rw [if_neg e] at hj
  have hne:y.2.1≠x.2.1:=by
   intro q
   have h1:(t.map (·.2.1))[i]?=some x.2.1:=by rw [List.getElem?_map,hi];rfl
   have h2:(t.map (·.2.1))[j]?=some x.2.1:=by rw [List.getElem?_map,hj];simp [q]
   exact e ((List.getElem?_inj (List.getElem?_eq_some_iff.mp h1).1 N.apart).mp (h1.trans h2.symm))
  rw [upd_ne hne]
  exact N.list y (List.mem_of_getElem? hj)
end L2
set_option Elab.async false
set_option linter.all false
set_option maxRecDepth 100000
namespace L2
open PySem PySem.Spec PyProof.Rows
def ntM (t:NT):List (Str × List Nat):=t.map fun x=>(x.1,x.2.2)
def ntName (m:List (Str × List Nat)) (z:Str):List (Str × List Nat):=if z∈m.map (·.1) then m else m ++ [(z,[])]
theorem nt_there {t:NT} {z:Str} {v:V} (h:valV (ntK t) (.inr z)=some v):∃ (i:Nat) (x:Str × Addr × List Nat),t[i]?=some x∧x.1=z∧v=.ref x.2.1:=by
 rw [nt_val] at h
 cases hf:t.find? (fun x=>decide (x.1=z)) with
 | none=>rw [hf] at h;exact nomatch h
 | some x=>
  rw [hf] at h
  have hv:V.ref x.2.1=v:=Option.some.inj h
  obtain ⟨i,hi⟩:=List.mem_iff_getElem?.mp (List.mem_of_find?_eq_some hf)
  have hz:=List.find?_some hf
  exact ⟨i,x,hi,of_decide_eq_true hz,hv.symm⟩
theorem nt_keys (t:NT):(ntM t).map (·.1)=t.map (·.1):=by unfold ntM;rw [List.map_map];rfl
theorem nt_not {t:NT} {z:Str} (h:valV (ntK t) (.inr z)=none):¬ z∈(ntM t).map (·.1):=by
 intro m
 rw [nt_keys] at m
 obtain ⟨x,hx,e⟩:=List.mem_map.mp m
 refine valV_not h (List.mem_map.mpr ⟨(.inr x.1,.ref x.2.1),List.mem_map.mpr ⟨x,hx,rfl⟩,?_⟩)
 show (Sum.inr x.1:Key)=Sum.inr z
 rw [e]
theorem NumsAt.setdef {H:Hp} {p l:Addr} {t:NT} {z:Str} {Q:VK} (N:NumsAt H p t) (hl:H l=none) (hn:t.length < sizeLine)
  (h:∀ (H':Hp) (t':NT) (i:Nat) (x:Str × Addr × List Nat),NumsAt H' p t'→t'[i]?=some x→x.1=z→ntM t'=ntName (ntM t) z→(∀ y∈t',y∈t∨y.2.1=l)→(∀ a o,a≠p→H a=some o→H' a=some o)→Q (.ref x.2.1) H') :
  ∃ kvs k,upd H l (.lst []) p=some (.dK kvs)∧V.str z=kV k∧kvs.length < sizeLine∧(∀ v,valV kvs k=some v→Q v (upd H l (.lst []))) ∧
   (valV kvs k=none→Q (.ref l) (upd (upd H l (.lst [])) p (.dK (putK kvs k (.ref l))))):=by
 have hpl:p≠l:=fun e=>by have:=N.dict;rw [e,hl] at this;exact nomatch this
 have gr:∀ a o,H a=some o→upd H l (.lst []) a=some o:=fun a o e=>by
  rw [upd_ne (fun q=>by rw [q,hl] at e;exact nomatch e)];exact e
 refine ⟨ntK t,.inr z,gr _ _ N.dict,rfl,by unfold ntK;rw [List.length_map];exact hn,fun v hv=>?_,fun hz=>?_⟩
 ·obtain ⟨i,x,hi,hx,rfl⟩:=nt_there hv
  refine h _ t i x (N.grow gr) hi hx ?_ (fun y hy=>.inl hy) fun a o _ e=>gr a o e
  have hm:z∈(ntM t).map (·.1):=by rw [nt_keys];exact List.mem_map.mpr ⟨x,List.mem_of_getElem? hi,hx⟩
  unfold ntName;rw [if_pos hm]
 ·refine h _ (t ++ [(z,l,[])]) t.length (z,l,[]) (N.new hl hz) (by simp) rfl ?_ (fun y hy=>(List.mem_append.mp hy).imp id fun q=>by rw [List.mem_singleton.mp q]) fun a o ha e=>by rw [upd_ne ha];exact gr a o e
  unfold ntName;rw [if_neg (nt_not hz)];unfold ntM;rw [List.map_append];rfl
theorem ntM_set {t:NT} {i:Nat} {x:Str × Addr × List Nat} (k:Nat):ntM (t.set i (x.1,x.2.1,x.2.2 ++ [k]))=(ntM t).set i (x.1,x.2.2 ++ [k]):=by
 unfold ntM;rw [List.map_set]
theorem ntName_nodup {m:List (Str × List Nat)} {z:Str} (h:(m.map (·.1)).Nodup):((ntName m z).map (·.1)).Nodup:=by
 unfold ntName
 by_cases e:z∈m.map (·.1)
 ·rw [if_pos e];exact h
 ·rw [if_neg e,List.map_append]
  refine List.nodup_append.mpr ⟨h,by simp,fun a ha b hb=>?_⟩
  rw [List.map_singleton] at hb
  rw [List.mem_singleton.mp hb]
  exact fun q=>e ((show a=z from q) ▸ ha)
end L2
set_option Elab.async false
set_option linter.all false
set_option maxRecDepth 100000
namespace L2
open PySem PySem.Spec PyProof.Rows
section
variable {X:Cx} {K:PySem.W.Frag} {tg:Expr}
theorem pe_bmK {o e:Expr} {es:List Expr} {to:TE} {t:TA} {name:Str} {apos cpos:Pos} {T id:String} {r:V→List V→Hp→VK→Prop} (hK:X.K=K) (pa:PlainAttrs T) (slot:Slot T name id) (hty:typeOf (.builtin id)=pure (.type "method_descriptor")) (hm:MtR X id r) (ho:PE X o to) (ha:PA X (e :: es) t)
  (hbase:attributeBase o name X.env (eval o X.env)=eval o X.env:=by rfl)
  (hfew:((backTo cpos (starEach (e :: es) X.env)).all (fun x=>!x.1) && (backToKw cpos (keywordEach [] X.env)).all (fun x=>x.1.isSome)
   && decide ((e :: es).length + ([]:List Keyword).length + (if ([]:List Keyword).isEmpty then 0 else 1) < 30))=true:=by rfl)
  (hline:(apos.endLine == cpos.line)=true:=by rfl) (hs:starEach (e :: es) X.env=(false,eval e X.env) :: starEach es X.env:=by rfl) (hplain:(backTo cpos (starEach es X.env)).any (·.1)=false:=by rfl) :
  PE X (.Call (.Attribute o name apos) (e :: es) [] cpos) (tBM K T r to t):=hK ▸ pe_bm pa slot hty hm ho ha hbase hfew hline hs hplain
end
end L2
namespace QL
open PySem PySem.Spec PyProof.Rows
end QL
set_option Elab.async false
set_option linter.all false
set_option maxRecDepth 100000
namespace L2
open PySem PySem.Spec PyProof.Rows
section
variable {X:Cx} {CX:CXT} {k:Nat} {C:Addr} {ps:List Str} {sp:Sp} {x:Str} {p pos:Pos} {e:Expr} {es:List Expr} {t:TA}
def tMakeX (C:Addr) (sp:Sp) (t:TA):TX:=fun σ H Q E=>t σ H fun vs H1=>∀ x dx,H1 x=none→H1 dx=none→dx≠x→sp (.ref x :: vs) (upd (upd H1 dx (.own x)) x (.ins C dx [])) (fun v H2=>v=.non∧Q (.ref x) H2) E
end
theorem XCls.out {K:PySem.W.Frag} {C:Addr} {bm:List Value} {nid:String} (c:XCls K C bm nid):XOut K C bm nid:=by
 refine ⟨?_⟩
 have q:=c.exc
 unfold PySem.W.excIn at q
 unfold PySem.W.excOut
 revert q
 cases K.lookup C with
 | none=>exact fun q=>q
 | some ob=>
  obtain ⟨ty,dd,data,sl⟩:=ob
  intro q
  split at q
  ·rename_i e
   cases e
   split at q
   ·rename_i hm hs
    simp only [hm,hs]
    simp only [Bool.and_eq_true] at q ⊢
    obtain ⟨⟨⟨⟨⟨a1,a2⟩,a3⟩,a4⟩,a5⟩,_⟩:=q
    exact ⟨⟨⟨⟨a1,a2⟩,a3⟩,a4⟩,a5⟩
   ·cases q
  ·cases q
section
variable {X:Cx} {e:Expr} {tx:TX} {i:Nat} {n x:Str} {D:Addr} {bmD:List Value} {nD:String} {b₀:Stmt} {suite:List Stmt} {epos pos hpos np:Pos} {ts:Addr→TS}
def tTryExO (K:PySem.W.Frag) (D:Addr) (tx:TX) (i:Nat) (ts:Addr→TS):TS:=fun De σ H=>
 tx σ H (fun _ H1=>De.nx σ H1) (fun cls od H'=>∃ C bm nid,cls=.ref C∧XOut K C bm nid∧Under K C D∧∀ ea,H' ea=none →
  ts ea { nx:=fun σ2 H2=>De.nx (σ2.set i none) H2,rt:=De.rt,bk:=fun σ2 H2=>De.bk (σ2.set i none) H2,ct:=fun σ2 H2=>De.ct (σ2.set i none) H2 } (σ.set i (some (.ref ea))) (upd H' ea (xo ea (.ref C) od)))
def tTryEx0 (K:PySem.W.Frag) (D:Addr) (tx:TX) (ts:Addr→TS):TS:=fun De σ H=>
 tx σ H (fun _ H1=>De.nx σ H1) (fun cls od H'=>∃ C bm nid,cls=.ref C∧XOut K C bm nid∧Under K C D∧∀ ea,H' ea=none→ts ea De σ (upd H' ea (xo ea (.ref C) od)))
end
section
variable {X:Cx} {CX:CXT} {k:Nat} {C:Addr} {ps:List Str} {sp:Sp} {m:Str} {pos apos:Pos} {e o:Expr} {es:List Expr} {t:TA} {ta:TE}
end
section
variable {X:Cx}
def rCount:V→List V→Hp→VK→Prop:=fun x xs H Q=>∃ z y,x=.str z∧xs=[.str y]∧Q (.int (Txt.count z y)) H
end
end L2
namespace CtM
open PySem PySem.Builtin PySem.Builtin.Str QL SpM
end CtM
set_option Elab.async false
set_option linter.all false
set_option maxRecDepth 100000
namespace L2
open PySem PySem.Spec PyProof.Rows QL
section
variable {K:PySem.W.Frag} {g:TG} {ti:TT} {te:TE} {σ:St} {H:Hp} {Q:List V→Hp→Prop} {α:Type}
theorem fm_take {as:List α} {f:α→Option V} {i:Nat} {x:α} (hx:as[i]?=some x):(as.take (i + 1)).filterMap f=(as.take i).filterMap f ++ (f x).toList:=by
 rw [List.take_add_one,hx,List.filterMap_append]
 show _ ++ List.filterMap f [x]=_
 cases h:f x <;> simp [h]
theorem fm_len {as:List α} {f:α→Option V} (i:Nat):((as.take i).filterMap f).length≤as.length:=Nat.le_trans (List.length_filterMap_le _ _) (by rw [List.length_take];omega)
theorem fm_some {as:List α} (f:α→V):as.filterMap (fun x=>some (f x))=as.map f:=by induction as with | nil=>rfl | cons x xs ih=>simp
theorem comp_listF {a:Addr} {as:List α} {emb:α→V} {f:α→Option V} (S:St→Prop) (h0:S σ) (hl:∀ H',Same H H'→SqL K H' a (as.map emb)) (hn:as.length≤1000000)
  (hs:∀ (i:Nat) x,as[i]?=some x→∀ σ H' (N1:V→St→Hp→Prop) (N0:St→Hp→Prop),S σ→Same H H'→(∀ v σ2 H2,f x=some v→Same H H2→S σ2→N1 v σ2 H2)→(∀ σ2 H2,f x=none→Same H H2→S σ2→N0 σ2 H2) →
   g (emb x) σ H' fun σ2 H3=>ti σ2 H3 fun b H4=>if b=true then te σ2 H4 fun v H5=>N1 v σ2 H5 else N0 σ2 H4)
  (he:∀ H',Same H H'→Q (as.filterMap f) H'):CompW (Itl K a) g ti te σ H Q:=by
 refine comp_list (xs:=as.map emb) (fun i acc σ H'=>Same H H'∧acc=(as.take i).filterMap f∧i≤as.length∧S σ) ⟨fun _ _ e=>e,rfl,Nat.zero_le _,h0⟩ ?_ ?_ ?_ ?_ ?_
 ·rintro i acc σ H' ⟨_,rfl,_⟩
  have:=fm_len (as:=as) (f:=f) i
  exact line_big (by omega)
 ·rintro i acc σ H' ⟨_,_,h,_⟩
  rw [List.length_map];exact h
 ·rintro i acc σ H' ⟨sm,_⟩
  exact hl _ sm
 ·rintro i x acc σ H' hx ⟨sm,rfl,hi,hS⟩
  have hlt:i < as.length:=by have:=(List.getElem?_eq_some_iff.mp hx).1;rwa [List.length_map] at this
  rw [List.getElem?_map,List.getElem?_eq_getElem hlt] at hx
  cases hx
  have hg:as[i]?=some as[i]:=List.getElem?_eq_getElem hlt
  refine hs i as[i] hg σ H' (fun v σ2 H5=>_) (fun σ2 H4=>_) hS sm (fun v σ2 H2 hf s2 hS2=>⟨s2,?_,hlt,hS2⟩) (fun σ2 H2 hf s2 hS2=>⟨s2,?_,hlt,hS2⟩)
  ·rw [fm_take hg,hf];rfl
  ·rw [fm_take hg,hf];simp
 ·rintro acc σ H' ⟨sm,rfl,_⟩
  have e:(as.take (as.map emb).length).filterMap f=as.filterMap f:=by rw [List.length_map,List.take_length]
  rw [e];exact he _ sm
theorem comp_rangeF {n:Nat} {f:Nat→Option V} (S:St→Prop) (h0:S σ) (hn:n≤1000000)
  (hs:∀ i,i < n→∀ σ H' (N1:V→St→Hp→Prop) (N0:St→Hp→Prop),S σ→Same H H'→(∀ v σ2 H2,f i=some v→Same H H2→S σ2→N1 v σ2 H2)→(∀ σ2 H2,f i=none→Same H H2→S σ2→N0 σ2 H2) →
   g (.int (0 + (i:Int))) σ H' fun σ2 H3=>ti σ2 H3 fun b H4=>if b=true then te σ2 H4 fun v H5=>N1 v σ2 H5 else N0 σ2 H4)
  (he:∀ H',Same H H'→Q ((List.range n).filterMap f) H'):CompW (Itr 0 n) g ti te σ H Q:=by
 refine comp_range (lo:=0) (n:=n) (fun i acc σ H'=>Same H H'∧acc=(List.range i).filterMap f∧i≤n∧S σ) ⟨fun _ _ e=>e,rfl,Nat.zero_le _,h0⟩ ?_ ?_ ?_ ?_
 ·rintro i acc σ H' ⟨_,rfl,hi,_⟩
  have:=List.length_filterMap_le f (List.range i)
  rw [List.length_range] at this
  exact line_big (by omega)
 ·rintro i acc σ H' ⟨_,_,h,_⟩
  exact h
 ·rintro i acc σ H' hi ⟨sm,rfl,_,hS⟩
  refine hs i hi σ H' (fun v σ2 H5=>_) (fun σ2 H4=>_) hS sm (fun v σ2 H2 hf s2 hS2=>⟨s2,?_,hi,hS2⟩) (fun σ2 H2 hf s2 hS2=>⟨s2,?_,hi,hS2⟩)
  ·rw [List.range_succ,List.filterMap_append];simp [hf]
  ·rw [List.range_succ,List.filterMap_append];simp [hf]
 ·rintro acc σ H' ⟨sm,rfl,_⟩
  exact he _ sm
end
end L2
set_option Elab.async false
set_option linter.all false
set_option maxRecDepth 100000
namespace L2
open PySem PySem.Spec PyProof.Rows QL
section
variable {X:Cx}
end
end L2
namespace ThM
open PySem L2
def addNew (ks:List Str) (z:Str):List Str:=if z∈ks then ks else ks ++ [z]
theorem mem_addNew {ks:List Str} {z y:Str}:y∈addNew ks z↔y∈ks∨y=z:=by
 unfold addNew
 split
 ·rename_i h
  exact ⟨.inl,fun q=>q.elim id fun e=>e ▸ h⟩
 ·rw [List.mem_append,List.mem_singleton]
section
variable {α:Type} (f:List α→List α)
def rep:Nat→List α→List α
 | 0,s=>s
 | n + 1,s=>f (rep n s)
variable {f}
end
abbrev NR:=Str × List Str
def useStep (ks:List Str) (r:NR):List Str:=if (∀ z∈r.2,z∈ks) then addNew ks r.1 else ks
def useRound (rs:List NR) (ks:List Str):List Str:=rs.foldl useStep ks
theorem nd_len {ks ms:List Str} (hn:ks.Nodup) (h:∀ z∈ks,z∈ms):ks.length≤ms.length:=by
 induction ks generalizing ms with
 | nil=>exact Nat.zero_le _
 | cons k ks ih=>
  rw [List.nodup_cons] at hn
  have hk:=h k List.mem_cons_self
  have h1:=ih (ms:=ms.erase k) hn.2 fun z hz=>by
   have hne:z≠k:=fun e=>hn.1 (e ▸ hz)
   exact (List.mem_erase_of_ne hne).mpr (h z (List.mem_cons_of_mem _ hz))
  have h2:=List.length_erase_of_mem hk
  have h3:=List.length_pos_of_mem hk
  rw [List.length_cons]
  omega
def useful (rs:List NR):List Str:=rep (useRound rs) rs.length []
end ThM
set_option Elab.async false
set_option linter.all false
set_option maxRecDepth 100000
namespace L2
open PySem PySem.Spec PyProof.Rows QL
section
variable {X:Cx}
end
end L2
set_option Elab.async false
set_option linter.all false
set_option maxRecDepth 100000
namespace ThM
open PySem L2
section
variable {α:Type} {f:List α→List α} (μ:List α→Nat)
end
theorem fold_mem {y:Str}:∀ (zs ks:List Str),y∈zs.foldl addNew ks↔y∈ks∨y∈zs
 | [],ks=>by simp
 | z :: zs,ks=>by
  rw [List.foldl_cons,fold_mem zs,mem_addNew,List.mem_cons]
  exact ⟨fun h=>h.elim (fun h=>h.elim .inl fun e=>.inr (.inl e)) fun h=>.inr (.inr h),fun h=>h.elim (fun h=>.inl (.inl h)) fun h=>h.elim (fun e=>.inl (.inr e)) .inr⟩
def comeStep (ks:List Str) (r:NR):List Str:=if r.1∈ks then r.2.foldl addNew ks else ks
def comeRound (rs:List NR) (ks:List Str):List Str:=rs.foldl comeStep ks
def Done (ks:List Str) (r:NR):Prop:=r.1∈ks∧∀ z∈r.2,z∈ks
instance (ks:List Str) (r:NR):Decidable (Done ks r):=by unfold Done;infer_instance
def comeTo (st:Str) (rs:List NR):List Str:=rep (comeRound rs) rs.length [st]
def ofUse (rs:List NR) (r:NR):Bool:=decide (∀ z∈r.2,z∈useful rs)
def uses (rs:List NR):List NR:=rs.filter (ofUse rs)
def came (st:Str) (rs:List NR):List Str:=comeTo st (uses rs)
def keep (st:Str) (rs:List NR) (r:NR):Bool:=decide (r.1∈came st rs) && ofUse rs r
end ThM
set_option Elab.async false
set_option linter.all false
set_option maxRecDepth 100000
namespace L2
open PySem PySem.Spec PyProof.Rows
section
variable {X:Cx} {body:List Stmt} {h₀:ExceptHandler} {hs:List ExceptHandler} {tb:TS} {pos:Pos}
theorem ps_try_calm (hb:PSs X.nox body tb):PS X (.Try body (h₀ :: hs) [] [] pos) tb:=by
 intro pins s σ H De I h
 refine wpAny_Try_except ?_
 refine wpAny_mono (hb pins s σ H De (I.wish _) h) (fun fl s1 q=>?_) fun _ _ f=>f.elim
 have q':=SP.unwish q
 cases fl with
 | next=>exact wpAny_execs_nil q'
 | brk=>exact q'
 | cont=>exact q'
 | ret u=>exact q'
theorem pe_fldK {e:Expr} {ta:TE} {f:Str} {K:PySem.W.Frag} (hK:X.K=K) (he:PE X e ta) (hb:attributeBase e f X.env (eval e X.env)=eval e X.env):PE X (.Attribute e f pos) (tFld K ta f):=hK ▸ pe_fld he hb
theorem pa_consT {es' es:List Expr} {x1:Nat} {p:Pos} {te:TE} {t:TA} (ha:PE X (.Tuple es' x1 p) te) (hr:PA X es t):PA X (.Tuple es' x1 p :: es) (tCons te t):=pa_cons ha hr rfl
theorem swaps_sub {a b:Expr} {p:Pos} {t:Option Expr} {l:Nat} {env:Env}:swapsWith (.Subscript a b p) t l env=pure false:=rfl
def eqFs (xs ys:List V):Bool:=(List.range (min xs.length ys.length)).all (fun j=>match xs[j]?,ys[j]? with | some x,some y=>eqV x y | _,_=>true) && xs.length == ys.length
def rEqF (K:PySem.W.Frag):R2:=fun x y H Q=>∃ a b xs ys,x=.ref a∧y=.ref b∧SqT K H a xs∧SqT K H b ys∧xs.all flatV=true∧ys.all flatV=true∧Q (.bl (eqFs xs ys)) H
theorem op_eqF (hu:X.A.units + 64 < cLine):OpR X (compareOp .Eq) (rEqF X.K):=by
 intro pins s σ H x y v u Q I rx ry h
 obtain ⟨a,b,xs,ys,rfl,rfl,ha,hb,fx,fy,q⟩:=h
 cases rx;cases ry
 obtain ⟨its,ra,pa,_⟩:=I.tuple ha
 obtain ⟨its2,rb,pb,_⟩:=I.tuple hb
 have l1:=ra.length;have l2:=rb.length
 have q':=SeqAt.RcAt.tuples (A:=X.A) (s:=s) (e:=fun j=>match xs[j]?,ys[j]? with | some x,some y=>eqV x y | _,_=>true) (show s.heap.IsTuple a its.toArray from pa) (show s.heap.IsTuple b its2.toArray from pb) (by omega) (fun j g1 g2=>by
  have g1':j < its.length:=by simpa using g1
  have g2':j < its2.length:=by simpa using g2
  have x1:xs[j]?=some xs[j]:=List.getElem?_eq_getElem (by omega)
  have y1:ys[j]?=some ys[j]:=List.getElem?_eq_getElem (by omega)
  obtain ⟨w1,f1,rr1⟩:=ra.get x1
  obtain ⟨w2,f2,rr2⟩:=rb.get y1
  rw [List.getElem?_eq_getElem g1'] at f1
  rw [List.getElem?_eq_getElem g2'] at f2
  cases f1;cases f2
  simp only [List.getElem_toArray,x1,y1]
  exact eqAt_V rr1 rr2 (List.all_eq_true.mp fx _ (List.mem_of_getElem? x1)) (List.all_eq_true.mp fy _ (List.mem_of_getElem? y1)))
 refine q' _ _ _ _ ⟨.bl _,H,I,rfl,?_⟩
 rw [List.size_toArray,List.size_toArray,← l1,← l2]
 exact q
end
end L2
set_option Elab.async false
set_option linter.all false
set_option maxRecDepth 100000
namespace L2
open PySem PySem.Spec PyProof.Rows
section
variable {X:Cx} {es:List Expr} {t:TA} {te:TE}
structure WA (X:Cx) (es:List Expr) (t:TA):Prop where
 out:PA X es t
structure WE (X:Cx) (e:Expr) (t:TE):Prop where
 out:PE X e t
structure WB (X:Cx) (b:List Stmt) (t:TS):Prop where
 out:PSs X b t
theorem wa_nil:WA X [] tNil:=⟨pa_nil⟩
theorem wa_S {x:Str} {j:Nat} {p:Pos} (hr:WA X es t):WA X (.Constant (.str x) j p :: es) (tCons (tC (.str x)) t):=⟨pa_consS hr.out⟩
theorem wa_T {es':List Expr} {x1:Nat} {p:Pos} (ha:WE X (.Tuple es' x1 p) te) (hr:WA X es t):WA X (.Tuple es' x1 p :: es) (tCons te t):=⟨pa_consT ha.out hr.out⟩
theorem we_tup {x1:Nat} {p:Pos} (h:WA X es t):WE X (.Tuple es x1 p) (tTup t):=⟨pe_tup h.out⟩
theorem we_lst {p:Pos} (h:WA X es t):WE X (.List es p) (tLst t):=⟨pe_lst h.out⟩
structure WS (X:Cx) (s:Stmt) (t:TS):Prop where
 out:PS X s t
theorem ws_ixL {i:Nat} {x:Str} {b:Expr} {tb:TE} {pos pos' p lp:Pos} (hN:X.N.Nodup) (hi:X.N[i]?=some x) (hx:Loc X.env.scope x) (he:WE X (.List es lp) te) (hb:PE X b tb) (hs:PlainIx b) (hf:X.fn x=true∨X.env.scope.names.lookup x=some .local:=by first | exact .inl rfl | exact .inr rfl | assumption):WS X (.Assign [.Name x pos'] (.Subscript (.List es lp) b p) pos) (tAsg (tOp (rIxL X.K) te tb) (gName i)):=⟨ps_set hN hi hx (pe_ix ix_list he.out hb hs) swaps_sub hf⟩
theorem wb_cons {st:Stmt} {rest:List Stmt} {u v:TS} (h1:WS X st u) (h2:PSs X rest v):WB X (st :: rest) (tSeq u v):=⟨pss_cons h1.out h2⟩
theorem pss_consV {st:Stmt} {rest:List Stmt} {u v:TS} (h1:PS X st u) (h2:WB X rest v):PSs X (st :: rest) (tSeq u v):=pss_cons h1 h2.out
end
end L2
set_option Elab.async false
set_option linter.all false
set_option maxRecDepth 100000
namespace L2
open PySem PySem.Spec PyProof.Rows QL
section
variable {X:Cx}
def rDictC:List V→Hp→VK→Prop:=fun xs H Q=>∃ a kvs,xs=[.ref a]∧H a=some (.dK kvs)∧∀ l,H l=none→Q (.ref l) (upd H l (.dK kvs))
def rNeM:R2:=fun x y H Q=>∃ a b kvs,x=.ref a∧y=.ref b∧H a=some (.dK kvs)∧H b=some (.dK kvs)∧(∀ kv∈kvs,flatV kv.2=true∧valV kvs kv.1=some kv.2)∧Q (.bl false) H
end
end L2
set_option Elab.async false
set_option linter.all false
set_option maxRecDepth 100000
namespace PySem
open PySem.Calls PyProof.Rows
section
variable {prog:Program} {w:World} {A:Around} {E:Value→Shared→Prop} {env:Env}
variable {nm q:Str} {C N:Addr} {bs bm:List Value} {hdct:Bool} {sn:List Str} {sub:List Value} {ab:Bool} {col:Option Bool} {dd:Option Addr} {k0 k1 k2 k3 k5:Option Value} {newId:String}
variable {bmB bmN:List Value} {B Bn nid initId inN:String} {K:PySem.W.Frag}
end
end PySem
namespace PySem
section
variable {cp:Value→Prop} {M:Model} {A:Around} {E:Value→Shared→Prop} {s:Shared} {base:Heap} {env:Env} {outer:List Env} {L e:Addr} {Q:Unit→Shared→Prop}
end
end PySem
namespace L2
open PySem PySem.Spec PyProof.Rows
def ExcAtC (ea:Addr) (cls:Value) (od:Option Addr) (h:Heap):Prop:=∃ o vs,h.get? ea=some o∧o.cls=cls∧o.dict=od∧o.data=.fields vs∧vs[2]?=some .none
abbrev xoc (ea:Addr) (cls:Value) (od:Option Addr):HO:=.ext (ExcAtC ea cls od)
section
variable {P:Program} {w:World} {K:PySem.W.Frag} {mg:Str→Option Value} {base:Heap} {N:List Str} {qual:Str} {scope:Scope} {f:Addr} {cd:Value} {A:Around} {outer:List Env} {s:Shared} {H:Hp} {E E1:XK} {CX:CXT}
end
section
variable {X:Cx} {e e₀:Expr} {rest:List Expr} {tx:TX} {t:TA} {x y:Str} {C D:Addr} {bmD:List Value} {nD:String} {rpos pos pos2 hpos np np2 cpos npos:Pos} {kd:Nat} {E:XK}
def tTryNone (K:PySem.W.Frag) (D C:Addr) (E:XK) (tx:TX) (t:TA):TS:=fun De σ H=>
 tx σ H (fun v H1=>De.rt v H1) (fun cls od H'=>∃ C' bm nid,cls=.ref C'∧XOut K C' bm nid∧Under K C' D∧∀ ea,H' ea=none→t σ (upd H' ea (xoc ea (.ref C') od)) fun vs H1=>vs.length≤sizeLine∧H1 ea=some (xoc ea (.ref C') od)∧E (.ref C) none H1)
end
end L2
set_option Elab.async false
set_option linter.all false
set_option maxRecDepth 100000
namespace PySem
open PySem.Calls PyProof.Rows
section
variable {prog:Program} {w:World} {A:Around} {E:Value→Shared→Prop} {env:Env}
variable {nm q:Str} {C N:Addr} {bs bm bmB bmN:List Value} {hdct:Bool} {sn:List Str} {sub:List Value} {ab:Bool} {col:Option Bool} {dd:Option Addr} {k0 k1 k2 k3 k5:Option Value} {newId B Bn nid initId inN:String} {K:PySem.W.Frag}
end
end PySem
namespace L2
open PySem PySem.Spec PyProof.Rows
section
variable {P:Program} {w:World} {K:PySem.W.Frag} {mg:Str→Option Value} {base:Heap} {N:List Str} {qual:Str} {scope:Scope} {f:Addr} {cd:Value} {A:Around} {outer:List Env} {s:Shared} {H:Hp} {E E1:XK}
end
end L2
set_option Elab.async false
set_option linter.all false
set_option maxRecDepth 100000
namespace L2
open PySem PySem.Spec PyProof.Rows
structure RoomQ (k:Nat) (A:Around):Prop where
 dp:A.depth + 3 * k + 5 < recursionLimit
 un:A.units + 16 * k + 200 < cLine
theorem Room.q {k:Nat} {A:Around} (r:Room k A):RoomQ k A:=⟨r.dp,r.un⟩
theorem RoomQ.make {k:Nat} {A:Around} (r:RoomQ (k + 1) A) (C:Addr) (us:List Value) (kw:List (Str × Value)):RoomQ k (A.under (.builtin "type.__call__" ⟨.ref C :: us,kw⟩)):=
 ⟨by have:=r.dp;rw [make_depth];omega,by have:=r.un;rw [make_units];omega⟩
structure FnOkQ (P:Program) (w:World) (K:PySem.W.Frag) (mg:Str→Option Value) (base:Heap) (CX:CXT) (k:Nat) (f:Addr) (fd:FuncData) (ps:List Str) (sp:Sp):Prop where
 len:∀ vs H Q E,sp vs H Q E→vs.length=ps.length
 run:∀ (A:Around) (outer:List Env) (s:Shared) (H:Hp) (args:Args) (us:List Value) (vs:List V) (Q:VK) (E:XK),RoomQ k A→Env0 P w K mg base A outer s H→BindsTo s fd args (ps.zip us)→Vals vs us→sp vs H Q E →
  codeAny (model P w) A (.call (.ref f) args) (CR CX outer P w H s Q E) s
structure XIQ (P:Program) (w:World) (K:PySem.W.Frag) (mg:Str→Option Value) (base:Heap) (k:Nat) (C:Addr) (fn:Str):Prop where
 ex:∃ (bm bmN:List Value) (newId Bn inN B nid initId:String) (fI:Addr) (fd:FuncData) (ps:List Str),XOut K C bm newId∧ExcBaseFacts Bn newId inN bmN∧bm.contains (.type Bn)=true∧ExcBaseFacts B nid initId bm ∧
  PySem.W.findIn K (.ref C) "__init__" = some (some (.ref fI))∧PySem.W.typeIn K (.ref fI)=some (.type "function")∧FnOkQ P w K mg base CX0 k fI fd ps (sp_init C fn)∧Binds K fd ps []
section
variable {X:Cx} {e e₀:Expr} {tx:TX} {t:TA} {x y:Str} {C D:Addr} {fn:Str} {k:Nat} {bmD:List Value} {nD:String} {rpos pos pos2 hpos np np2 cpos npos:Pos} {kd:Nat} {E:XK}
def tTryNoneI (K:PySem.W.Frag) (D C:Addr) (fn:Str) (E:XK) (tx:TX) (t:TA):TS:=fun De σ H=>
 tx σ H (fun v H1=>De.rt v H1) (fun cls od H'=>∃ C' bm nid,cls=.ref C'∧XOut K C' bm nid∧Under K C' D∧∀ ea,H' ea=none→t σ (upd H' ea (xoc ea (.ref C') od)) fun vs H1=>vs.length≤sizeLine∧H1 ea=some (xoc ea (.ref C') od)∧∃ v,vs=[v]∧∀ d,H1 d=none→E (.ref C) (some d) (upd H1 d (.xd [(fn,v)])))
end
end L2
set_option Elab.async false
set_option linter.all false
set_option maxRecDepth 100000
namespace PySem
theorem Heap.FunFrames.same {h h' base:Heap} {l:List Env} (k:∀ b∈l.filterMap (·.frame),h'.get? b=h.get? b) (hl:h.FunFrames base l):h'.FunFrames base l:=by
 induction l with
 | nil=>trivial
 | cons env rest ih=>
  obtain ⟨hk,⟨L,o,hf,hn,ho,hd⟩,hr⟩:=hl
  refine ⟨hk,⟨L,o,hf,hn,?_,hd⟩,ih (fun b hb=>k b ?_) hr⟩
  ·rw [k L (by rw [List.filterMap_cons,hf];exact List.mem_cons_self ..)];exact ho
  ·rw [List.filterMap_cons,hf];exact List.mem_cons_of_mem _ hb
section
variable {cp:Value→Prop} {M:Model} {A:Around} {E:Value→Shared→Prop} {s:Shared} {base:Heap} {env:Env} {outer:List Env} {L e:Addr} {Q:Unit→Shared→Prop}
end
end PySem
namespace L2
open PySem PySem.Spec PyProof.Rows
section
variable {P:Program} {w:World} {K:PySem.W.Frag} {mg:Str→Option Value} {base:Heap} {N:List Str} {qual:Str} {scope:Scope} {f:Addr} {cd:Value} {A:Around} {outer:List Env} {s:Shared} {H:Hp} {E E1:XK}
end
end L2
set_option Elab.async false
set_option linter.all false
set_option maxRecDepth 100000
namespace L2
open PySem PySem.Spec PyProof.Rows
section
variable {X:Cx}
end
end L2
set_option Elab.async false
set_option linter.all false
set_option maxRecDepth 100000
namespace L2
open PySem PySem.Spec PyProof.Rows
section
variable {P:Program} {w:World} {K:PySem.W.Frag} {mg:Str→Option Value} {base:Heap} {N:List Str} {qual:Str} {scope:Scope} {f:Addr} {cd:Value} {A:Around} {outer:List Env} {s:Shared} {H:Hp} {E E1:XK}
end
open QL
section
variable {X:Cx}
def rSplitL:V→List V→Hp→VK→Prop:=fun x xs H Q=>∃ z c,x=.str (tx z)∧xs=[.str ⟨#[c]⟩]∧z.length≤90000∧∀ p,H p=none→Q (.ref p) (upd H p (.lst (rowsV (SpM.parts c z))))
end
end L2
set_option Elab.async false
set_option linter.all false
set_option maxRecDepth 100000
namespace L2
open PySem PySem.Spec PyProof.Rows
section
variable {prog:Program} {w:World} {A:Around} {E:Value→Shared→Prop} {s:Shared}
end
def tLenSetL (K:PySem.W.Frag) (t:TE):TE:=fun σ H Q=>t σ H fun x H1=>∃ l ts,x=.ref l∧SqL K H1 l (ts.map V.str)∧ts.length + 1 < scanBound∧Q (.int (met ts).length) H1
section
variable {X:Cx} {e:Expr} {t:TE} {p p2 pos pos2:Pos}
end
end L2
namespace L2
open PySem PySem.Spec PyProof.Rows
def rAny (K:PySem.W.Frag):List V→Hp→VK→Prop:=fun xs H Q=>∃ (p:Addr) (bs:List Bool),xs=[.ref p]∧SqL K H p (bs.map V.bl)∧Q (.bl (bs.any id)) H
end L2
set_option Elab.async false
set_option linter.all false
set_option maxRecDepth 100000
namespace L2
open PySem PySem.Spec PyProof.Rows QL
section
variable {X:Cx}
def rFind:V→List V→Hp→VK→Prop:=fun x xs H Q=>∃ z y,x=.str z∧xs=[.str y]∧∀ i:Int,Q (.int i) H
theorem mt_find:MtR X "str.find" rFind:=by
 intro pins s σ H x xs v us Q I rx rv h
 obtain ⟨z,y,rfl,rfl,q⟩:=h
 obtain ⟨t,rfl⟩:=rx
 obtain ⟨u,rfl,ru⟩:=rv.one
 obtain ⟨t',rfl⟩:=ru
 exact SC.find ⟨.int _,H,I.tok _,⟨_,rfl⟩,q _⟩
def rInsert:V→List V→Hp→VK→Prop:=fun x vs H Q=>∃ l xs i k y,x=.ref l∧vs=[.int i,y]∧H l=some (.lst xs)∧i=((k:Nat):Int)∧k≤xs.length∧xs.length < sizeLine∧Q .non (upd H l (.lst (xs.take k ++ y :: xs.drop k)))
def rEqT (K:PySem.W.Frag):R2:=fun x y H Q=>∃ ds,Dt.deps ds≤200∧RdD K H (.tup ds) x∧RdD K H (.tup ds) y∧Q (.bl true) H
end
theorem Same.sqT {K:PySem.W.Frag} {H H':Hp} {a:Addr} {xs:List V} (e:Same H H') (h:SqT K H a xs):SqT K H' a xs:=by
 rcases h with (h | ⟨o,h⟩) | h
 ·exact .inl (.inl (e _ _ h))
 ·exact .inl (.inr ⟨o,e _ _ h⟩)
 ·exact .inr h
mutual
theorem RdD.up {K:PySem.W.Frag} {H H':Hp} (e:Same H H'):∀ (d:Dt) {v:V},RdD K H d v→RdD K H' d v
 | .non,v,h=>by unfold RdD at h ⊢;exact h
 | .bl b,v,h=>by unfold RdD at h ⊢;exact h
 | .int i,v,h=>by unfold RdD at h ⊢;exact h
 | .str x,v,h=>by unfold RdD at h ⊢;exact h
 | .lst ds,v,h=>by unfold RdD at h ⊢;obtain ⟨a,xs,r,hs,hd⟩:=h;exact ⟨a,xs,r,e.seq hs,RdDs.up e ds hd⟩
 | .tup ds,v,h=>by unfold RdD at h ⊢;obtain ⟨a,xs,r,hs,hd⟩:=h;exact ⟨a,xs,r,e.sqT hs,RdDs.up e ds hd⟩
theorem RdDs.up {K:PySem.W.Frag} {H H':Hp} (e:Same H H'):∀ (ds:List Dt) {xs:List V},RdDs K H ds xs→RdDs K H' ds xs
 | [],xs,h=>by unfold RdDs at h ⊢;exact h
 | d :: ds,xs,h=>by unfold RdDs at h ⊢;obtain ⟨x,r,e0,h1,h2⟩:=h;exact ⟨x,r,e0,RdD.up e d h1,RdDs.up e ds h2⟩
end
end L2
set_option Elab.async false
set_option linter.all false
set_option maxRecDepth 100000
namespace L2
open PySem PySem.Spec PyProof.Rows QL
section
variable {K:PySem.W.Frag} {g:TG} {tb:TS} {D:Ends} {σ:St} {H:Hp}
end
def TupS (H H':Hp):Prop:=∀ b xs,H b=some (.tup xs)→H' b=some (.tup xs)
theorem TupS.of {H H':Hp} (s:Same H H'):TupS H H':=fun b xs h=>s b _ h
theorem TupS.trans {H H1 H2:Hp} (a:TupS H H1) (b:TupS H1 H2):TupS H H2:=fun c xs h=>b c xs (a c xs h)
theorem TupS.put {H:Hp} {l:Addr} {xs:List V} {o:HO} (h:H l=some (.lst xs)):TupS H (upd H l o):=fun b ys hb=>by
 rw [upd_ne (fun e=>by rw [e,h] at hb;cases hb)];exact hb
mutual
def TrAt (H:Hp):Dt→V→Prop
 | .int i,v=>v=.int i
 | .tup ds,v=>∃ a xs,v=.ref a∧H a=some (.tup xs)∧TrAts H ds xs
 | _,_=>False
def TrAts (H:Hp):List Dt→List V→Prop
 | [],xs=>xs=[]
 | d :: ds,xs=>∃ x r,xs=x :: r∧TrAt H d x∧TrAts H ds r
end
mutual
theorem TrAt.up {H H':Hp} (e:TupS H H'):∀ (d:Dt) {v:V},TrAt H d v→TrAt H' d v
 | .int i,v,h=>by unfold TrAt at h ⊢;exact h
 | .tup ds,v,h=>by unfold TrAt at h ⊢;obtain ⟨a,xs,r,hs,hd⟩:=h;exact ⟨a,xs,r,e _ _ hs,TrAts.up e ds hd⟩
 | .non,v,h=>by unfold TrAt at h;exact h.elim
 | .bl b,v,h=>by unfold TrAt at h;exact h.elim
 | .str x,v,h=>by unfold TrAt at h;exact h.elim
 | .lst ds,v,h=>by unfold TrAt at h;exact h.elim
theorem TrAts.up {H H':Hp} (e:TupS H H'):∀ (ds:List Dt) {xs:List V},TrAts H ds xs→TrAts H' ds xs
 | [],xs,h=>by unfold TrAts at h ⊢;exact h
 | d :: ds,xs,h=>by unfold TrAts at h ⊢;obtain ⟨x,r,e0,h1,h2⟩:=h;exact ⟨x,r,e0,TrAt.up e d h1,TrAts.up e ds h2⟩
end
mutual
theorem TrAt.rd {K:PySem.W.Frag} {H:Hp}:∀ (d:Dt) {v:V},TrAt H d v→RdD K H d v
 | .int i,v,h=>by unfold TrAt at h;unfold RdD;exact h
 | .tup ds,v,h=>by unfold TrAt at h;unfold RdD;obtain ⟨a,xs,r,hs,hd⟩:=h;exact ⟨a,xs,r,SqT.of hs,TrAts.rd ds hd⟩
 | .non,v,h=>by unfold TrAt at h;exact h.elim
 | .bl b,v,h=>by unfold TrAt at h;exact h.elim
 | .str x,v,h=>by unfold TrAt at h;exact h.elim
 | .lst ds,v,h=>by unfold TrAt at h;exact h.elim
theorem TrAts.rd {K:PySem.W.Frag} {H:Hp}:∀ (ds:List Dt) {xs:List V},TrAts H ds xs→RdDs K H ds xs
 | [],xs,h=>by unfold TrAts at h;unfold RdDs;exact h
 | d :: ds,xs,h=>by unfold TrAts at h;unfold RdDs;obtain ⟨x,r,e0,h1,h2⟩:=h;exact ⟨x,r,e0,TrAt.rd d h1,TrAts.rd ds h2⟩
end
theorem TrAts.cons {H:Hp} {d:Dt} {ds:List Dt} {x:V} {xs:List V} (h:TrAt H d x) (t:TrAts H ds xs):TrAts H (d :: ds) (x :: xs):=by unfold TrAts;exact ⟨x,xs,rfl,h,t⟩
theorem TrAts.nil {H:Hp}:TrAts H [] []:=by unfold TrAts;rfl
theorem TrAts.uncons {H:Hp} {d:Dt} {ds:List Dt} {xs:List V} (h:TrAts H (d :: ds) xs):∃ x r,xs=x :: r∧TrAt H d x∧TrAts H ds r:=by unfold TrAts at h;exact h
theorem TrAts.length {H:Hp}:∀ {ds:List Dt} {xs:List V},TrAts H ds xs→xs.length=ds.length
 | [],_,h=>by unfold TrAts at h;rw [h];rfl
 | d :: ds,xs,h=>by
  obtain ⟨x,r,rfl,_,h2⟩:=h.uncons
  simp [TrAts.length h2]
theorem TrAts.app {H:Hp}:∀ {ds es:List Dt} {xs ys:List V},TrAts H ds xs→TrAts H es ys→TrAts H (ds ++ es) (xs ++ ys)
 | [],es,xs,ys,h,k=>by unfold TrAts at h;subst h;exact k
 | d :: ds,es,xs,ys,h,k=>by
  obtain ⟨x,r,rfl,h1,h2⟩:=h.uncons
  exact TrAts.cons h1 (TrAts.app h2 k)
theorem TrAt.node {H:Hp} {a:Addr} {i:Int} {ds:List Dt} {xs:List V} (h:H a=some (.tup (V.int i :: xs))) (t:TrAts H ds xs):TrAt H (.tup (.int i :: ds)) (.ref a):=by
 unfold TrAt
 exact ⟨a,_,rfl,h,TrAts.cons (by unfold TrAt;rfl) t⟩
section
variable {np:Nat→Nat} {num:Str→Option Nat}
end
end L2
set_option Elab.async false
set_option linter.all false
set_option maxRecDepth 100000
namespace L2
open PySem PySem.Spec PyProof.Rows QL
theorem valsInts:∀ {ns:List Int} {us:List Value},Vals (ns.map V.int) us→∃ ps:List (Int × Tok),us.toArray=intItems ps.toArray∧ps.map (·.1)=ns
 | [],us,r=>⟨[],by have:=r.zero;subst this;simp [intItems],rfl⟩
 | n :: ns,us,r=>by
  cases r with
  | cons h t=>
   obtain ⟨tk,rfl⟩:=h
   obtain ⟨ps,e1,e2⟩:=valsInts t
   refine ⟨(n,tk) :: ps,?_,by rw [List.map_cons,e2]⟩
   have:=congrArg Array.toList e1
   unfold intItems at this ⊢
   simp at this ⊢
   exact this
section
variable {X:Cx}
theorem call_sumL (hc:X.calm=true):CallR X (.builtin "sum") (fun xs H Q=>∃ (p:Addr) (ns:List Int),xs=[.ref p]∧SqL X.K H p (ns.map V.int)∧Q (.int ns.sum) H):=by
 intro pins s σ H xs us Q I r h
 obtain ⟨p,ns,rfl,hs,q⟩:=h
 obtain ⟨u,rfl,ru⟩:=r.one
 cases ru
 obtain ⟨its,rv,pl,_⟩:=I.list hs
 obtain ⟨ps,e1,e2⟩:=valsInts rv
 refine sum_intListG (xs:=ps.toArray) (I.ok.hd hc) (by rw [← e1];exact pl.isList) fun h' tk t' hk=>?_
 have e3:preSum (numAt ps.toArray) ps.toArray.size=ns.sum:=by
  rw [preSum_eq,List.take_of_length_le (by simp),← e2]
 rw [e3]
 exact ⟨.int _,H,I.kept (t':=tk) hk,⟨_,rfl⟩,q⟩
theorem bt_sum:bootBuiltins "sum" = some (.builtin "sum"):=by decide +kernel
end
section
variable {prog:Program} {w:World} {A:Around} {R:Result→Shared→Prop} {I:Addr} {fp wr:List Addr} {n:Nat} {P:Nat→Value→Prop} {St:Nat→Heap→Prop}
def TopOf (val:Nat→Int) (j:Nat) (M:Int):Prop:=(∃ i,i < j∧val i=M)∧∀ i,i < j→val i≤M
theorem TopOf.next {val:Nat→Int} {j:Nat} {M:Int} (h:TopOf val j M):TopOf val (j + 1) (if val j > M then val j else M):=by
 obtain ⟨⟨i,hi,e⟩,h2⟩:=h
 by_cases c:val j > M
 ·rw [if_pos c]
  refine ⟨⟨j,Nat.lt_succ_self _,rfl⟩,fun k hk=>?_⟩
  by_cases hk2:k=j
  ·rw [hk2];exact Int.le_refl _
  ·have:=h2 k (by omega);omega
 ·rw [if_neg c]
  refine ⟨⟨i,by omega,e⟩,fun k hk=>?_⟩
  by_cases hk2:k=j
  ·rw [hk2];omega
  ·exact h2 k (by omega)
theorem top_one (val:Nat→Int):TopOf val 1 (val 0):=⟨⟨0,by decide,rfl⟩,fun i hi=>by
 have:i=0:=by omega
 rw [this]
 exact Int.le_refl _⟩
set_option maxHeartbeats 2000000 in
theorem max_loop (kw:List (Str × Value)) (W:Walks prog w A.in1 I fp wr n P St) (val:Nat→Int) (hval:∀ i v,P i v→∃ t,v=.int (val i) t) (B:Addr) (hB:B ∉ fp) :
  ∀ (m j:Nat) (s:Shared) (M:Int) (t:Tok) (c:Nat),n - j=m→1≤j→j≤n→St j s.heap→TopOf val j M →
  s.heap.get? B=some { cls:=.type "list",dict:=none,data:=.seq #[.int M t,.int M t] c,slots:=#[] } →
  (∀ M' t' h' tk,TopOf val n M'→(∀ b o,b ∉ wr→b≠B→s.heap.get? b=some o→h'.get? b=some o)→R (.ok (.ret (.int M' t'))) { s with heap:=h',toks:=tk }) →
  codeAny (model prog w) A (.builtin "max.loop" ⟨[.ref I,.none,.ref B],kw⟩) R s:=by
 have hBw:B ∉ wr:=fun x=>hB (W.sub _ x)
 have nm:(toString "max" ++ toString ".loop":String) = "max.loop":=by decide
 have cmp:=CmpOf.ints_gt (prog:=prog) (w:=w) (A:=A.in1) val hval
 intro m
 induction m with
 | zero=>
  intro j s M t c hm h1 hj st top eB ok
  have ej:j=n:=by omega
  subst ej
  refine codeAny_builtin F.entry_max_loop ?_
  rw [Around.under_plainId F.plain_max_loop _]
  show wpAny _ A.in1 (seqItems? (.ref B) >>= _) _ _ s
  refine wpAny_bind (wpAny_seqItems eB rfl ?_)
  show wpAny _ A.in1 (tryCatch (pyNext (.ref I)) _ >>= _) _ _ s
  refine wpAny_bind (wpAny_tryCatch (W.done s _ _ st fun h' tk kp=>?_))
  have eB':=kp B _ hBw eB
  show wpAny _ A.in1 (updateSeq B (fun _=>#[]) >>= _) _ _ _
  refine wpAny_bind (wpAny_updateSeq eB' rfl (wpAny_bind (wpAny_letGo (wpAny_pure ?_))))
  exact ok M t _ tk top fun b o h1 h2 e=>(Heap.get?_update_other _ _ (Ne.symm h2)).trans (kp b o h1 e)
 | succ m ih=>
  intro j s M t c hm h1 hj st top eB ok
  have hlt:j < n:=by omega
  refine codeAny_builtin F.entry_max_loop ?_
  rw [Around.under_plainId F.plain_max_loop _]
  show wpAny _ A.in1 (seqItems? (.ref B) >>= _) _ _ s
  refine wpAny_bind (wpAny_seqItems eB rfl ?_)
  show wpAny _ A.in1 (tryCatch (pyNext (.ref I)) _ >>= _) _ _ s
  refine wpAny_bind (wpAny_tryCatch (W.item j s _ _ hlt st fun v h' tk hP st' kp=>?_))
  have eB':=kp B _ hBw eB
  obtain ⟨t2,rfl⟩:=hval j v hP
  show wpAny _ A.in1 (tryCatch (holding [.int (val j) t2,.int (val j) t2] (richCompare .Gt (.int (val j) t2) (.int M t) >>= _)) _ >>= _) _ _ _
  refine wpAny_bind (wpAny_tryCatch (wpAny_holding (wpAny_bind (richCompare_gives (op:=.Gt) (typeIs_int _ _ t2) (typeIs_int _ _ t) F.slot_int_gt F.entry_int_gt (F.args_int_gt_2 _ _) (gives_int_gt _ _ t2 t) (fun x=>nomatch x) ?_))))
  refine wpAny_bind (wpAny_holding (wpAny_truthy_bool ?_))
  refine wpAny_bind (wpAny_letGo (wpAny_pure ?_))
  have top':=top.next
  by_cases cc:val j > M
  ·rw [decide_eq_true cc]
   simp only [if_true]
   refine wpAny_bind (wpAny_updateSeq eB' rfl (wpAny_bind (wpAny_letGo ?_)))
   rw [nm]
   rw [if_pos cc] at top'
   refine wpAny_pure ⟨plainId_quiet F.plain_max_loop _,ih (j + 1) _ (val j) t2 _ (by omega) (by omega) hlt (W.frame _ _ _ st' fun b hb o e=>?_) top' (Heap.get?_update_self _ eB' rfl) fun M' t' h2 tk2 tp kp2=>?_⟩
   ·exact (Heap.get?_update_other _ _ (fun x:B=b=>hB (by rw [x];exact hb))).trans e
   ·exact ok M' t' h2 tk2 tp fun b o x1 x2 e=>kp2 b o x1 x2 ((Heap.get?_update_other _ _ (Ne.symm x2)).trans (kp b o x1 e))
  ·rw [decide_eq_false cc]
   simp only [Bool.false_eq_true,if_false]
   refine wpAny_bind (wpAny_letGo ?_)
   rw [nm]
   rw [if_neg cc] at top'
   refine wpAny_pure ⟨plainId_quiet F.plain_max_loop _,ih (j + 1) _ M t c (by omega) (by omega) hlt st' top' eB' fun M' t' h2 tk2 tp kp2=>?_⟩
   exact ok M' t' h2 tk2 tp fun b o x1 x2 e=>kp2 b o x1 x2 (kp b o x1 e)
end
section
variable {prog:Program} {w:World} {A:Around} {E:Value→Shared→Prop} {s:Shared}
theorem args_maxD (a d:Value):argsOk "max" ⟨[a],[("default",d)]⟩:=by unfold argsOk;kernel_rfl
set_option maxHeartbeats 2000000 in
theorem call_max_default {l:Addr} {xs:Array (Int × Tok)} {d:Int} {t0:Tok} {Q:Value→Shared→Prop} (hh:A.handled=none) (hl:s.heap.IsList l (intItems xs))
  (ok:∀ M t h' tk,(xs.size=0∧M=d)∨(0 < xs.size∧TopOf (numAt xs) xs.size M)→(∀ b o,s.heap.get? b=some o→h'.get? b=some o)→Q (.int M t) { s with heap:=h',toks:=tk }) :
  wpAny (model prog w) A (call (.builtin "max") [.ref l] [("default",.int d t0)]) Q E s:=by
 have nm:(toString "max" ++ toString ".loop":String) = "max.loop":=by decide
 have sg:∀ sig,Manifest.signature? "max" = some sig→Bind.checkArgs "max" sig ⟨[.ref l],[("default",.int d t0)]⟩=pure ():=fun sig e=>by
  have a:=args_maxD (.ref l) (.int d t0)
  simpa only [argsOk,e] using a
 refine wpAny_call (codeAny_call_builtin F.plain_max F.entry_max ?_)
 have body:wpAny (model prog w) A.in1 (Builtin.«max» ⟨[.ref l],[("default",.int d t0)]⟩) (fun fin s'=>match fin with
   | .done f=>(match (Except.ok f:Result) with | .ok (.ret v)=>Q v s' | .ok _=>False | .error e=>E e s')
   | .again c'=>c'.quiet=true∧codeAny (model prog w) A c' (fun r s'=>match r with | .ok (.ret v)=>Q v s' | .ok _=>False | .error e=>E e s') s') E s:=by
  show wpAny _ A.in1 (Builtin.Builtins.bindParams "max" ["key","default"] 0 ⟨[],[("default",.int d t0)]⟩ >>= _) _ _ s
  refine wpAny_bind (wpAny_of_eq (show Builtin.Builtins.bindParams "max" ["key","default"] 0 ⟨[],[("default",.int d t0)]⟩=pure [none,some (.int d t0)] from rfl) ?_)
  refine wpAny_bind (wpAny_pure ?_)
  refine wpAny_bind (iter_intList hl fun s2 e st hfp hlI=>?_)
  refine wpAny_bind (wpAny_newObj_type ?_)
  rw [nm]
  have hBf:s2.heap.objs.size ∉ [s.heap.objs.size,l]:=fun x=>Nat.lt_irrefl _ (hfp _ x)
  have W:=Walks.list (prog:=prog) (w:=w) (A:=A.in1) hh s.heap.objs.size l hlI (intItems xs)
  have hBw:s2.heap.objs.size ∉ [s.heap.objs.size]:=fun x=>hBf (W.sub _ x)
  refine wpAny_pure ⟨plainId_quiet F.plain_max_loop _,?_⟩
  have st2:=W.frame 0 _ (s2.heap.push { cls:=.type "list",dict:=none,data:=.seq #[] 0 }) st fun b _ o e=>Heap.get?_push_of_some _ e
  have keep0:∀ b o,s.heap.get? b=some o→s2.heap.get? b=some o:=fun b o eo=>by rw [e];exact Heap.get?_push_of_some _ eo
  have new0:∀ b o,s.heap.get? b=some o→b ∉ [s.heap.objs.size]∧b≠s2.heap.objs.size:=fun b o eo=>by
   have h1:=Heap.lt_size eo
   have h2:=Heap.lt_size (keep0 b o eo)
   exact ⟨fun x=>Nat.lt_irrefl _ (List.mem_singleton.mp x ▸ h1),Nat.ne_of_lt h2⟩
  have eB:(s2.heap.push { cls:=.type "list",dict:=none,data:=.seq #[] 0 }).get? s2.heap.objs.size=some { cls:=.type "list",dict:=none,data:=.seq #[] 0,slots:=#[] }:=Heap.get?_push_size _ rfl
  have eS:∀ (h':Heap) (tk:Nat),({ s2 with heap:=h',toks:=tk }:Shared)={ s with heap:=h',toks:=tk }:=fun h' tk=>by rw [e]
  refine codeAny_builtin F.entry_max_loop ?_
  rw [Around.under_plainId F.plain_max_loop _]
  show wpAny _ A.in1 (seqItems? (.ref s2.heap.objs.size) >>= _) _ _ _
  refine wpAny_bind (wpAny_seqItems eB rfl ?_)
  show wpAny _ A.in1 (tryCatch (pyNext (.ref s.heap.objs.size)) _ >>= _) _ _ _
  by_cases hz:xs.size=0
  ·have hz2:(intItems xs).size=0:=by unfold intItems;rw [Array.size_map];exact hz
   refine wpAny_bind (wpAny_tryCatch (W.done _ _ _ (by rw [hz2];exact st2) fun h' tk kp=>?_))
   show wpAny _ A.in1 (rule _ >>= _) _ _ _
   refine wpAny_bind (wpAny_rule (wpAny_pure ?_))
   have:=ok d t0 h' tk (.inl ⟨hz,rfl⟩) fun b o eo=>kp b o (new0 b o eo).1 (Heap.get?_push_of_some _ (keep0 b o eo))
   rw [← eS] at this
   exact this
  ·have hlt:0 < (intItems xs).size:=by unfold intItems;rw [Array.size_map];omega
   refine wpAny_bind (wpAny_tryCatch (W.item 0 _ _ _ hlt st2 fun v h' tk hP st' kp=>?_))
   have eB':=kp s2.heap.objs.size _ hBw eB
   obtain ⟨t2,rfl⟩:=intItems_at hP
   show wpAny _ A.in1 (updateSeq s2.heap.objs.size (fun _=>#[.int (numAt xs 0) t2,.int (numAt xs 0) t2]) >>= _) _ _ _
   refine wpAny_bind (wpAny_updateSeq eB' rfl ?_)
   rw [nm]
   refine wpAny_pure ⟨plainId_quiet F.plain_max_loop _,max_loop [("default",.int d t0)] W (numAt xs) (fun _ _=>intItems_at) s2.heap.objs.size hBf _ 1 _ (numAt xs 0) t2 _ rfl (Nat.le_refl _) hlt (W.frame _ _ _ st' fun b hb o eo=>?_) (top_one _) (Heap.get?_update_self _ eB' rfl) fun M' t' h2 tk2 tp kp2=>?_⟩
   ·exact (Heap.get?_update_other _ _ (fun x:s2.heap.objs.size=b=>hBf (by rw [x];exact hb))).trans eo
   ·have sz:(intItems xs).size=xs.size:=by unfold intItems;rw [Array.size_map]
    rw [sz] at tp
    have:=ok M' t' h2 tk2 (.inr ⟨by omega,tp⟩) fun b o eo=>kp2 b o (new0 b o eo).1 (new0 b o eo).2 ((Heap.get?_update_other _ _ (Ne.symm (new0 b o eo).2)).trans (kp b o (new0 b o eo).1 (Heap.get?_push_of_some _ (keep0 b o eo))))
    rw [← eS] at this
    exact this
 simp only [checkBuiltinCall,F.kind_max]
 cases hs:Manifest.signature? "max" with
 | none=>exact wpAny_pure body
 | some sig=>
  simp only [sg sig hs]
  exact wpAny_pure body
end
def tMaxD (K:PySem.W.Frag) (t:TA) (tk:TA):TE:=fun σ H Q=>t σ H fun xs H1=>tk σ H1 fun ds H2=>∃ (p:Addr) (ns:List Int) (d:Int),xs=[.ref p]∧ds=[.int d]∧SqL K H2 p (ns.map V.int)∧∀ M:Int,(ns=[]∧M=d)∨(M∈ns∧∀ a∈ns,a≤M)→Q (.int M) H2
section
variable {X:Cx} {e:Expr} {t tk:TA} {p pos kpos:Pos} {de:Expr}
theorem pe_maxD (hc:X.calm=true) (hg:Gl X "max") (hm:X.mg "max" = none) (ha:PA X [e] t) (hk:PK X [⟨some "default",de,kpos⟩] tk)
  (he:backTo pos (starEach [e] X.env)=(false,eval e X.env) :: backTo pos (starEach [] X.env):=by rfl) (hpl:(backTo pos (starEach [e] X.env)).any (·.1)=false:=by rfl)
  (hall:(backToKw pos (keywordEach [⟨some "default",de,kpos⟩] X.env)).all (·.1.isSome)=true:=by rfl) (hkw:(backToKw pos (keywordEach [⟨some "default",de,kpos⟩] X.env)).any (·.1.isNone)=false:=by rfl)
  (hks:(backToKw pos (keywordEach [⟨some "default",de,kpos⟩] X.env)).filterMap (·.1)=[("default":Str)]:=by rfl) :
  PE X (.Call (.Name "max" p) [e] [⟨some "default",de,kpos⟩] pos) (tMaxD X.K t tk):=by
 intro pins s σ H Q I h
 have hb:bootBuiltins "max" = some (.builtin "max"):=by decide +kernel
 refine wpAny_Call_Name_kw (ld_blt I hg hm hb ?_)
 refine callWith_kw (thn (ha pos pins s σ H _ I h) fun us s1 ⟨vs,H1,I1,r,q⟩=>?_) he hpl hall hkw
 refine thn (hk pos pins s1 σ H1 _ I1 q) fun ws s2 ⟨zs,H2,I2,rz,q2⟩=>?_
 rw [hks]
 obtain ⟨l,ns,d,rfl,rfl,hs,q3⟩:=q2
 obtain ⟨u,rfl,ru⟩:=r.one
 cases ru
 obtain ⟨u2,rfl,ru2⟩:=rz.one
 obtain ⟨t0,rfl⟩:=ru2
 obtain ⟨its,rv,pl,_⟩:=I2.list hs
 obtain ⟨ps,e1,e2⟩:=valsInts rv
 refine call_max_default (xs:=ps.toArray) (I2.ok.hd hc) (by rw [← e1];exact pl.isList) fun M t' h' tk' hM kp=>?_
 refine ⟨.int M,H2,I2.kept (t':=tk') kp,⟨_,rfl⟩,q3 M ?_⟩
 have hl:ps.length=ns.length:=by rw [← e2,List.length_map]
 have at_:∀ i (h:i < ns.length),numAt ps.toArray i=ns[i]:=fun i h=>by
  unfold numAt
  subst e2
  simp at h
  simp [h]
 rcases hM with ⟨hz,hM⟩ | ⟨hz,⟨i,hi,ei⟩,top⟩
 ·refine .inl ⟨List.length_eq_zero_iff.mp ?_,hM⟩
  simp at hz
  rw [← hl,hz];rfl
 ·have hi':i < ns.length:=by simpa [hl] using hi
  refine .inr ⟨by rw [← ei,at_ i hi'];exact List.getElem_mem _,fun a ha'=>?_⟩
  obtain ⟨j,hj⟩:=List.mem_iff_getElem?.mp ha'
  obtain ⟨hj1,hj2⟩:=List.getElem?_eq_some_iff.mp hj
  have:=top j (by simpa [hl] using hj1)
  rw [at_ j hj1,hj2] at this
  exact this
end
end L2
set_option Elab.async false
set_option linter.all false
set_option maxRecDepth 100000
namespace L2
open PySem PySem.Spec PyProof.Rows QL Pic
theorem fm_all {α β:Type} {g:α→β}:∀ (l:List α) (f':α→Option β),(∀ k∈l,f' k=some (g k))→l.filterMap f'=l.map g
 | [],_,_=>rfl
 | a :: l,f',h=>by
  rw [List.filterMap_cons,h a List.mem_cons_self,List.map_cons,fm_all l f' fun k hk=>h k (List.mem_cons_of_mem _ hk)]
section
variable {X:Cx}
def rCatG (K:PySem.W.Frag):R2:=fun x y H Q=>∃ a b xs ys,x=.ref a∧y=.ref b∧SqT K H a xs∧SqT K H b ys∧xs.length + ys.length≤sizeLine∧∀ p H',SqT K H' p (xs ++ ys)→Same H H'→Q (.ref p) H'
theorem op_catG:OpR X (binaryOp .Add) (rCatG X.K):=by
 intro pins s σ H x y v u Q I rx ry h
 obtain ⟨a,b,xs,ys,rfl,rfl,ha,hb,hz,q⟩:=h
 by_cases hx:xs=[]
 ·subst hx
  cases rx
  cases ry
  obtain ⟨its,r1,p1,_⟩:=I.tuple ha
  obtain ⟨its2,r2,p2,_⟩:=I.tuple hb
  have e1:its=[]:=r1.zero
  subst e1
  obtain ⟨⟨cls,dd,data,sl⟩,ho,hc,n,hd⟩:=id p1
  obtain ⟨⟨cls2,dd2,data2,sl2⟩,ho2,hc2,n2,hd2⟩:=id p2
  simp only at hc hd hc2 hd2
  subst hc hd hc2 hd2
  exact concat_meets ⟨_,ho,rfl⟩ ⟨_,ho2,rfl⟩ noFill_tuple_add seq_tuple_add PySem.F.slot_tuple_add PySem.F.entry_tuple_add (PySem.F.args_tuple_add_2 _ _)
   (tuple_addW0 a b _ _ n n2 dd dd2 sl sl2 (by rfl)) ⟨ho,ho2,⟨.ref b,H,I,rfl,q b H (by rw [List.nil_append];exact hb) (Same.refl _)⟩⟩
 ·refine op_catT pins s σ H _ _ v u Q I rx ry ⟨a,b,xs,ys,rfl,rfl,ha,hb,hx,hz,fun e=>?_,fun _ p hp=>q p _ (SqT.of upd_same) (same_upd hp)⟩
  refine q a H ?_ (Same.refl _)
  rw [e,List.append_nil];exact ha
def tRevS (te ts:TE):TE:=fun σ H Q=>te σ H fun x H1=>ts σ H1 fun y H2=>∃ r:List Nat,x=.str (tx r)∧y=.int (-1)∧r.length≤1000∧Q (.str (tx r.reverse)) H2
theorem rev_ix (n:Nat):Builtin.Str.strSliceIndices none none (-1) n=(List.range n).map fun k=>n - 1 - k:=by
 unfold Builtin.Str.strSliceIndices sliceRange
 by_cases hn:n=0
 ·subst hn;decide
 ·simp only [show ¬ ((-1:Int) > 0) by decide,if_false]
  rw [if_pos (by omega)]
  have e:(((n:Int) - 1 - -1 - -1 - 1) / (- -1)).toNat=n:=by
   have:(- -1:Int)=1:=by decide
   rw [this,Int.ediv_one]
   omega
  rw [e]
  refine List.map_congr_left fun k hk=>?_
  omega
variable {e st:Expr} {te ts:TE} {p2 pos:Pos}
theorem pe_revS (he:PE X e te) (hs:PE X st ts):PE X (.Subscript e (.Slice none none (some st) p2) pos) (tRevS te ts):=by
 intro pins s σ H Q I h
 refine Subscript_ (thn (he pins s σ H _ I h) fun v s1 ⟨x,H1,I1,r1,q1⟩=>?_)
 refine wpAny_Slice ?_
 rw [evalPart_none]
 refine wpAny_pure (wpAny_pure ?_)
 show wpAny _ _ (eval st X.env) _ _ _
 refine thn (hs pins s1 σ H1 _ I1 q1) fun vs s2 ⟨y,H2,I2,r2,r,ex,ey,hl,q⟩=>?_
 subst ex
 subst ey
 obtain ⟨t1,rfl⟩:=r1
 obtain ⟨t2,rfl⟩:=r2
 have I3:Inv X pins σ H2 { s2 with heap:=s2.heap.push { cls:=.type "slice",data:=.fields #[.none,.none,.int (-1) t2] } }:=I2.kept (t':=s2.toks) fun b ob q=>Heap.get?_push_of_some _ q
 have hsl:Heap.IsSlice (s2.heap.push { cls:=.type "slice",data:=.fields #[.none,.none,.int (-1) t2] }) s2.heap.objs.size none none (some (-1,t2)):=⟨_,Heap.get?_push_size _ rfl,rfl,rfl⟩
 have pick:(if ((Option.map (fun x:Int × Tok=>x.1) (some (-1,t2))).getD 1 == 1 && (slicePicked (tx r) none none (some (-1,t2))).length == (tx r).length)=true then tx r else ⟨((slicePicked (tx r) none none (some (-1,t2))).filterMap ((tx r).cps[·]?)).toArray⟩)=tx r.reverse:=by
  have e1:slicePicked (tx r) none none (some (-1,t2))=(List.range r.length).map fun k=>r.length - 1 - k:=by
   unfold slicePicked
   rw [← rev_ix,← tx_length r]
   rfl
  rw [if_neg (by simp),e1]
  have e2:((List.range r.length).map fun k=>r.length - 1 - k).filterMap ((tx r).cps[·]?)=r.reverse:=by
   have:∀ k∈List.range r.length,(tx r).cps[r.length - 1 - k]?=some (r.reverse.getD k 0):=fun k hk=>by
    have hk':=List.mem_range.mp hk
    rw [← Array.getElem?_toList,tx_list,List.getD_eq_getElem?_getD,List.getElem?_reverse hk',List.getElem?_eq_getElem (by omega),Option.getD_some]
   rw [List.filterMap_map]
   refine (fm_all (g:=fun k=>r.reverse.getD k 0) _ _ (fun k hk=>this k hk)).trans ?_
   apply List.ext_getElem?
   intro i
   rw [List.getElem?_map]
   by_cases hi:i < r.length
   ·rw [List.getElem?_range hi,Option.map_some,List.getD_eq_getElem?_getD,List.getElem?_eq_getElem (by rw [List.length_reverse];exact hi),Option.getD_some]
   ·rw [List.getElem?_eq_none (by rw [List.length_range];omega),List.getElem?_eq_none (by rw [List.length_reverse];omega)];rfl
  rw [e2]
  rfl
 have hg:wpAny (model X.prog X.w) X.A (getItem (.str (tx r) t1) (.ref s2.heap.objs.size)) (EP X pins σ Q) X.xe { s2 with heap:=s2.heap.push { cls:=.type "slice",data:=.fields #[.none,.none,.int (-1) t2] } }:=by
  refine wpAny_getItem_str_slice hsl (by rfl) ?_
  unfold sliceMade
  refine post_val_or_str ⟨?_,fun t' k=>?_⟩
  ·rw [pick];rw [tx_length];exact line_le (by rw [List.length_reverse];omega)
  ·rw [pick];exact ⟨.str _,H2,I3.tok _,⟨_,rfl⟩,q⟩
 show wpAny (model X.prog X.w) X.A (subscriptTail e (.Slice none none (some st) p2) (.str (tx r) t1) (.ref s2.heap.objs.size)) (EP X pins σ Q) X.xe _
 exact tail_any (ops:=[.ref s2.heap.objs.size,.str (tx r) t1]) (typeIs_str _ _ _) F.slot_str_getitem.lookup hg (by with_unfolding_all rfl)
end
end L2
set_option Elab.async false
set_option linter.all false
set_option maxRecDepth 100000
namespace L2
open PySem PySem.Spec PyProof.Rows QL Pic
abbrev tupIter (a:Addr):Obj:={ cls:=.type "tuple_iterator",data:=.fields #[.ref a,.int 0 0] }
abbrev enumObj (a:Addr):Obj:={ cls:=.type "enumerate",data:=.fields #[.none,.bool false,.ref a,rawInt 0,.none,.none] }
theorem enum_newT (a:Addr) (us:Array Value) (n:Nat) (dd:Option Addr) (ss:Array (Option Value)) :
  Meets (Builtin.«enumerate.__new__» ⟨[.type "enumerate",.ref a],[]⟩) (fun _ R s=>s.heap.get? a=some { cls:=.type "tuple",dict:=dd,data:=.seq us n,slots:=ss } ∧
   R (.ok (.ret (.ref (s.heap.push (tupIter a)).objs.size))) { s with heap:=(s.heap.push (tupIter a)).push (enumObj s.heap.objs.size) }):=
 .of_wp fun prog w A R s h=>by
  obtain ⟨h0,g0,d0,t0,o0⟩:=s
  obtain ⟨ea,h⟩:=h
  have sb:=sub_enumerate
  have isT:Heap.IsTuple (Shared.heap ⟨h0,g0,d0,t0,o0⟩) a us:=⟨_,ea,rfl,n,rfl⟩
  wp_walk using AutoSeq1.wpAny_loadPart' ea
  refine wpAny_stack_any fun _=>wpAny_pure ?_
  split
  ·rename_i cc _ _ _ _ _
   cases (cc == Value.type "enumerate")
   ·wp_walk using AutoSeq1.wpAny_loadPart' ea,wpAny_pyIter_tuple isT
    exact ⟨_,rfl,h⟩
   ·wp_walk using AutoSeq1.wpAny_loadPart' ea,wpAny_pyIter_tuple isT
    exact ⟨_,rfl,h⟩
  ·wp_walk using AutoSeq1.wpAny_loadPart' ea,wpAny_pyIter_tuple isT
   exact ⟨_,rfl,h⟩
section
variable {prog:Program} {w:World} {A:Around} {E:Value→Shared→Prop} {s:Shared}
theorem call_enumT {a:Addr} {us:Array Value} {Q:Value→Shared→Prop} (ha:s.heap.IsTuple a us)
  (h:∀ h',IsEnum h' (s.heap.objs.size + 1) s.heap.objs.size 0 .none→h'.IsTupleIter s.heap.objs.size a 0→(∀ b o,s.heap.get? b=some o→h'.get? b=some o)→Q (.ref (s.heap.objs.size + 1)) { s with heap:=h' }) :
  wpAny (model prog w) A (call (.type "enumerate") [.ref a]) Q E s:=by
 obtain ⟨⟨c,dd,dt,ss⟩,ea,ec,n,ed⟩:=ha
 simp only at ec ed
 subst ec ed
 refine callType_new F.called_enumerate (by decide) (F.typeCall_enumerate_1 _) (F.newCall_enumerate_1 _) (fun ob=>F.args_object_init_2 ob _) F.entry_enumerate_new (enum_newT a us n dd ss) ⟨ea,?_⟩
 have sz:(s.heap.push (tupIter a)).objs.size=s.heap.objs.size + 1:=Heap.size_push ..
 show _∧_
 rw [sz]
 have ie:IsEnum ((s.heap.push (tupIter a)).push (enumObj s.heap.objs.size)) (s.heap.objs.size + 1) s.heap.objs.size 0 .none:=by
  have q:=Heap.get?_push_size (s.heap.push (tupIter a)) (o:=enumObj s.heap.objs.size) rfl
  rw [sz] at q
  exact q
 exact ⟨⟨_,ie,rfl⟩,h _ ie ⟨_,Heap.get?_push_of_some _ (Heap.get?_push_size _ rfl),rfl,rfl⟩ fun b o q=>Heap.get?_push_of_some _ (Heap.get?_push_of_some _ q)⟩
theorem nextT_item {i0 a:Addr} {i:Nat} {us:Array Value} {x:Value} {Q:Value→Shared→Prop} (ii:s.heap.IsTupleIter i0 a i) (ha:s.heap.IsTuple a us) (hx:us[i]?=some x)
  (q:∀ h',h'.IsTupleIter i0 a (i + 1)→Heap.SameBut i0 s.heap h'→Q x { s with heap:=h' }):wpAny (model prog w) A (Builtin.SmallTypes.nextOf (.ref i0)) Q E s:=by
 obtain ⟨oi,ei,ci,di⟩:=id ii
 obtain ⟨oa,ea,_,na,da⟩:=ha
 unfold Builtin.SmallTypes.nextOf
 refine wpAny_bind (wpAny_callSpecial?_slot (name:=Str.ofString "__next__") ii.typeIs F.slot_tuple_iterator_next (wpAny_call_entry F.slot_tuple_iterator_next ii.typeIs F.entry_tuple_iterator_next ?_ (F.args_tuple_iterator_next_1 _)))
 show wpAny _ _ (field (.ref i0) 0 >>= _) _ _ s
 refine wpAny_bind (wpAny_field ei di (x:=.ref a) rfl ?_)
 show wpAny _ _ (if (Value.ref a == Value.none)=true then _ else _) _ _ s
 rw [if_neg (show ¬ ((Value.ref a == Value.none)=true) from Bool.false_ne_true)]
 show wpAny _ _ (field (.ref i0) 1 >>= _) _ _ s
 refine wpAny_bind (wpAny_field ei di (x:=.int i 0) rfl ?_)
 show wpAny _ _ (seqItems? (.ref a) >>= _) _ _ s
 refine wpAny_bind (wpAny_seqItems ea da ?_)
 simp only [Int.toNat_natCast,hx]
 refine wpAny_bind (wpAny_setField ei di (by simp) (wpAny_pure ⟨x,rfl,wpAny_pure (q _ ?_ (Heap.SameBut.update ..))⟩))
 exact ⟨_,Heap.get?_update_self _ ei (Obj.isFreed_of_fields (Obj.data_mapFields di _)),(Obj.cls_mapFields ..).trans ci,by rw [Obj.data_mapFields di];simp [rawInt]⟩
theorem nextT_end {i0 a:Addr} {i:Nat} {us:Array Value} {Q:Value→Shared→Prop} (hh:A.handled=none) (ii:s.heap.IsTupleIter i0 a i) (ha:s.heap.IsTuple a us) (hx:us[i]?=none)
  (q:∀ h' e,Heap.ExtBut i0 s.heap h'→(∃ o,h'.get? e=some o∧o.cls=.type "StopIteration")→E (.ref e) { s with heap:=h' }):wpAny (model prog w) A (Builtin.SmallTypes.nextOf (.ref i0)) Q E s:=by
 obtain ⟨oi,ei,ci,di⟩:=id ii
 obtain ⟨oa,ea,_,na,da⟩:=ha
 unfold Builtin.SmallTypes.nextOf
 refine wpAny_bind (wpAny_callSpecial?_slot (name:=Str.ofString "__next__") ii.typeIs F.slot_tuple_iterator_next (wpAny_call_entry F.slot_tuple_iterator_next ii.typeIs F.entry_tuple_iterator_next ?_ (F.args_tuple_iterator_next_1 _)))
 show wpAny _ _ (field (.ref i0) 0 >>= _) _ _ s
 refine wpAny_bind (wpAny_field ei di (x:=.ref a) rfl ?_)
 show wpAny _ _ (if (Value.ref a == Value.none)=true then _ else _) _ _ s
 rw [if_neg (show ¬ ((Value.ref a == Value.none)=true) from Bool.false_ne_true)]
 show wpAny _ _ (field (.ref i0) 1 >>= _) _ _ s
 refine wpAny_bind (wpAny_field ei di (x:=.int i 0) rfl ?_)
 show wpAny _ _ (seqItems? (.ref a) >>= _) _ _ s
 refine wpAny_bind (wpAny_seqItems ea da ?_)
 simp only [Int.toNat_natCast,hx]
 refine wpAny_bind (wpAny_rule (wpAny_bind (wpAny_setField ei di (by simp) ?_)))
 show wpAny _ _ (newExc (.type "StopIteration") [] >>= _) _ _ _
 refine wpAny_bind ?_
 simp only [newExc,newTuple]
 refine wpAny_bind (wpAny_newObj_type ?_ (by size_fits))
 refine wpAny_bind (m:=firstArgMember _ _) (wpAny_of_eq (a:=Value.none) (by first | rfl | (simp only [firstArgMember];rfl)) ?_)
 refine wpAny_newObj_type ?_ (by size_fits)
 simp only [raiseNew]
 refine wpAny_bind (wpAny_handled ?_)
 first | rw [show A.in1.handled=none from hh] | rw [hh]
 refine wpAny_bind (wpAny_pure (wpAny_throw ?_))
 exact q _ _ (((Heap.SameBut.update ..).extBut.push _).push _) ⟨_,Heap.get?_push_size _ rfl,rfl⟩
end
theorem drawsT {prog:Program} {w:World} {A:Around} (hh:A.handled=none) (i0 a:Addr) (hne:a≠i0) (us:Array Value) :
  Draws prog w A i0 [i0,a] us.size (fun i v=>us[i]?=some v) (fun i h=>h.IsTupleIter i0 a i∧h.IsTuple a us) where
 live:=fun _ _ st=>let ⟨o,ho,_⟩:=st.1;⟨o,ho⟩
 frame:=fun _ _ _ st kp=>⟨by obtain ⟨o,ho,r⟩:=st.1;exact ⟨o,kp i0 (by simp) o ho,r⟩,by obtain ⟨o,ho,r⟩:=st.2;exact ⟨o,kp a (by simp) o ho,r⟩⟩
 item:=fun i s Q E hi st q=>by
  refine nextT_item st.1 st.2 (x:=us[i]) (by simp [hi]) fun h' i1 sb=>?_
  refine q _ h' s.toks (by simp [hi]) ⟨i1,?_⟩ sb
  obtain ⟨o,ho,r⟩:=st.2
  exact ⟨o,(sb.2 a hne).trans ho,r⟩
 done:=fun s Q E st q=>nextT_end hh st.1 st.2 (by simp) q
def Itte (K:PySem.W.Frag) (a:Addr):It:=
 ⟨fun i H=>∃ xs x,SqT K H a xs∧xs[i]?=some x,fun i H v H'=>∃ T x,v=.ref T∧H T=none∧H'=upd H T (.tup [.int (i:Int),x])∧∀ xs,SqT K H a xs→xs[i]?=some x,fun i H=>∃ xs,SqT K H a xs∧xs.length=i⟩
theorem turn_enumT {P:Program} {w:World} {K:PySem.W.Frag} {elts:List Expr} {x1:Nat} {tp:Pos} {e it l:Addr} (hei:e≠it) (hel:l≠e) (hil:l≠it) :
  Turn P w K (.Tuple elts x1 tp) (Itte K l) [e,it] e (fun i h=>(∃ old,IsEnum h e it i old)∧h.IsTupleIter it l i) where
 mem:=by simp
 obj:=fun i h st b hb=>by
  obtain ⟨⟨old,he⟩,⟨o1,e1,c1,d1⟩⟩:=st
  simp only [List.mem_cons,List.not_mem_nil,or_false] at hb
  rcases hb with rfl | rfl
  ·exact ⟨_,he,fun v q=>by cases q⟩
  ·exact ⟨_,e1,fun v q=>by rw [d1] at q;cases q⟩
 keep:=fun i h h' st hk=>by
  obtain ⟨⟨old,he⟩,⟨o1,e1,r⟩⟩:=st
  exact ⟨⟨old,hk e (by simp) _ he⟩,⟨o1,hk it (by simp) _ e1,r⟩⟩
 item:=by
  intro X hP hw hK hc i pins s σ H E I hf st hg
  subst hP hw hK
  obtain ⟨xs,x,hq,hx⟩:=hg
  obtain ⟨its,rv,p,hz⟩:=I.tuple hq
  obtain ⟨u,hu,ru⟩:=rv.get hx
  obtain ⟨⟨old,he⟩,h1⟩:=st
  obtain ⟨o1,e1,_⟩:=id h1
  have D:=drawsT (prog:=X.prog) (w:=X.w) (A:=X.A.in1) (I.ok.hd hc) it l hil its.toArray
  have hlt:i < its.toArray.size:=by rw [List.size_toArray];exact (List.getElem?_eq_some_iff.mp hu).1
  refine wpAny_pyNext_enum_itemD D he ⟨h1,p⟩ hlt hei (by simp [hei,Ne.symm hel]) fun v h' tk hv a1 a2 a3 a4 hk=>?_
  have ev:v=u:=by
   have:its[i]?=some v:=by simpa using hv
   rw [hu] at this
   exact (Option.some.inj this).symm
  subst ev
  refine ⟨_,rfl,wpAny_letOwnedTupleGo_enum a1 fun h2 he2 hs2=>?_⟩
  have hfree:H s.heap.objs.size=none:=I.hok.fresh (Nat.le_refl _)
  have lt:∀ {c o},s.heap.get? c=some o→s.heap.objs.size≠c:=fun e=>Nat.ne_of_gt (Heap.lt_size e)
  have kk:∀ c o,c ∉ [e,it]→s.heap.get? c=some o→h2.get? c=some o:=fun c o hc q=>
   hs2.extBut _ _ (fun z=>hc (by simp [z])) (hk c o (fun z=>hc (by simp [z])) (fun z=>hc (by simp [z])) q)
  have hT:h2.get? s.heap.objs.size=some { cls:=.type "tuple",data:=.seq #[.int i tk,v] }:=hs2.extBut _ _ (lt he) a3
  refine ⟨.ref s.heap.objs.size,upd H s.heap.objs.size (.tup [.int i,x]),I.movedT (tk:=tk + 1) hf kk (Nat.le_refl _) ⟨show 2≤sizeLine from by decide +kernel,[.int i tk,v],.cons ⟨_,rfl⟩ (.cons ru .nil),_,hT,rfl,_,rfl⟩,rfl,
   ⟨_,x,rfl,hfree,rfl,fun zs hzs=>by rw [I.tuple_inj hzs hq];exact hx⟩,⟨⟨v,by simpa using he2⟩,?_⟩,fun b hb=>?_⟩
  ·obtain ⟨o2,e2,r⟩:=a2.1
   exact ⟨o2,hs2.extBut _ _ (Ne.symm hei) e2,r⟩
  have hlt:b≠s.heap.objs.size:=by
   simp only [List.mem_cons,List.not_mem_nil,or_false] at hb
   rcases hb with rfl | rfl
   ·exact (lt he).symm
   ·exact (lt e1).symm
  rw [upd_ne hlt]
  exact (hf b hb).1
 done:=by
  intro X hP hw hK hc i pins s σ H E I hf st hg
  subst hP hw hK
  obtain ⟨xs,hq,hx⟩:=hg
  obtain ⟨its,rv,p,hz⟩:=I.tuple hq
  obtain ⟨⟨old,he⟩,h1⟩:=st
  have l1:=rv.length
  have D:=drawsT (prog:=X.prog) (w:=X.w) (A:=X.A.in1) (I.ok.hd hc) it l hil its.toArray
  have ei:i=its.toArray.size:=by rw [List.size_toArray];omega
  subst ei
  exact wpAny_pyNext_enum_endD D he ⟨h1,p⟩ fun h' hk=>⟨rfl,I.moved (tk:=s.toks) hf fun c o hc e=>hk c o (fun q=>hc (by simp [q])) e⟩
 self:=fun _ _ _ _ _ st h=>let ⟨⟨_,he⟩,_⟩:=st;wpAny_pyIter_enum he h
def iEnumT (K:PySem.W.Frag) (ta:TA):TI:=fun σ H R=>ta σ H fun vs H1=>∃ a xs,vs=[.ref a]∧SqT K H1 a xs∧R (Itte K a) H1
section
variable {X:Cx} {elts:List Expr} {x1:Nat} {tp:Pos}
theorem pi_enumT {a:Expr} {ta:TA} {p pos:Pos} (hg:Gl X "enumerate") (hm:X.mg "enumerate" = none) (ha:PA X [a] ta) (hs:starEach [a] X.env=[(false,eval a X.env)]:=by rfl):PI X (.Tuple elts x1 tp) (.Call (.Name "enumerate" p) [a] [] pos) (iEnumT X.K ta):=by
 intro pins s σ H R I h
 refine Call_ (ld_blt I hg hm boot_enumerate (PyProof.Rows.callWith_type1 (thn (ha pos pins s σ H _ I h) fun us s1 ⟨vs,H1,I1,r1,q1⟩=>?_) (by rw [hs];rfl) (by rfl)))
 obtain ⟨l,xs,rfl,hq,q⟩:=q1
 obtain ⟨u,rfl,ru⟩:=r1.one
 cases ru
 obtain ⟨its,rv,p1,_⟩:=I1.tuple hq
 have hll:l < s1.heap.objs.size:=by obtain ⟨o,e,_⟩:=p1;exact Heap.lt_size e
 refine call_enumT p1 fun h' z1 z2 hk=>?_
 have I2:Inv X pins σ H1 { s1 with heap:=h' }:=I1.kept (t':=s1.toks) hk
 refine wpAny_pyIter_enum z1 ?_
 refine ⟨s1.heap.objs.size + 1,[s1.heap.objs.size + 1,s1.heap.objs.size],_,_,H1,rfl,I2,turn_enumT (l:=l) (Nat.ne_of_gt (Nat.lt_succ_self _)) (Nat.ne_of_lt (Nat.lt_succ_of_lt hll)) (Nat.ne_of_lt hll),⟨⟨_,z1⟩,z2⟩,fun b hb=>?_,q⟩
 have hb':s1.heap.objs.size≤b:=by
  simp only [List.mem_cons,List.not_mem_nil,or_false] at hb
  rcases hb with e | e <;> (rw [e];first | exact Nat.le_refl _ | exact Nat.le_add_right _ _)
 exact I1.fpOk hb' (I1.hok.fresh hb')
end
section
variable {K:PySem.W.Frag} {g:TG} {tb:TS} {D:Ends} {σ:St} {H:Hp}
theorem forw_enumT {a:Addr} {xs:List V} (Pv:Nat→St→Hp→Prop) (h0:Pv 0 σ H) (hl:∀ i σ H,i≤xs.length→Pv i σ H→SqT K H a xs)
  (hs:∀ (i:Nat) x σ H T,xs[i]?=some x→Pv i σ H→H T=none→g (.ref T) σ (upd H T (.tup [.int (i:Int),x])) fun σ2 H2=>tb { D with nx:=Pv (i + 1),ct:=Pv (i + 1),bk:=D.nx } σ2 H2) (hd:∀ σ H,Pv xs.length σ H→D.nx σ H):ForW (Itte K a) g tb D σ H:=by
 refine ⟨fun i m σ H=>m=xs.length - i∧i≤xs.length∧Pv i σ H,⟨xs.length,by simp,Nat.zero_le _,h0⟩,?_⟩
 rintro i m σ H ⟨rfl,hi,p⟩
 have q:=hl i σ H hi p
 by_cases hlt:i < xs.length
 ·refine .inr ⟨⟨xs,xs[i],q,by simp [hlt]⟩,Pv (i + 1),fun σ' H' p'=>⟨xs.length - (i + 1),by omega,rfl,hlt,p'⟩,fun x H' y=>?_⟩
  obtain ⟨T,x,rfl,hT,rfl,y⟩:=y
  exact hs i x σ _ T (y xs q) p hT
 ·have e:i=xs.length:=by omega
  subst e
  exact .inl ⟨⟨xs,q,rfl⟩,hd σ H p⟩
end
end L2
set_option Elab.async false
set_option linter.all false
set_option maxRecDepth 100000
namespace L2
open PySem PySem.Spec PyProof.Rows QL Pic
theorem rv_next:Slot "reversed" "__next__" "reversed.__next__":=
 .of (owner:="reversed") (n:="__next__") (by rw [typeLookup_type,builtinLookup_eq_fast];kernel_rfl) (by decide +kernel) (by decide +kernel) (by decide +kernel) (by first | exact .inl (by decide +kernel) | exact .inr (by decide +kernel)) (by rw [isSubtype_type];kernel_rfl)
theorem rv_iter:Slot "reversed" "__iter__" "reversed.__iter__":=
 .of (owner:="reversed") (n:="__iter__") (by rw [typeLookup_type,builtinLookup_eq_fast];kernel_rfl) (by decide +kernel) (by decide +kernel) (by decide +kernel) (by first | exact .inl (by decide +kernel) | exact .inr (by decide +kernel)) (by rw [isSubtype_type];kernel_rfl)
theorem rv_init:Slot "reversed" "__init__" "object.__init__":=
 .of (owner:="object") (n:="__init__") (by rw [typeLookup_type,builtinLookup_eq_fast];kernel_rfl) (by decide +kernel) (by decide +kernel) (by decide +kernel) (by first | exact .inl (by decide +kernel) | exact .inr (by decide +kernel)) (by rw [isSubtype_type];kernel_rfl)
theorem rv_hint:Slot "reversed" "__length_hint__" "reversed.__length_hint__":=
 .of (owner:="reversed") (n:="__length_hint__") (by rw [typeLookup_type,builtinLookup_eq_fast];kernel_rfl) (by decide +kernel) (by decide +kernel) (by decide +kernel) (by first | exact .inl (by decide +kernel) | exact .inr (by decide +kernel)) (by rw [isSubtype_type];kernel_rfl)
theorem rv_next_e:entryFor table "reversed.__next__" = some Builtin.«reversed.__next__»:=entryFor_of_tree (by kernel_rfl)
theorem rv_hint_e:entryFor table "reversed.__length_hint__" = some Builtin.«reversed.__length_hint__»:=entryFor_of_tree (by kernel_rfl)
theorem rv_next_a (a:Value):argsOk "reversed.__next__" ⟨[a],[]⟩:=by unfold argsOk;kernel_rfl
theorem rv_iter_a (a:Value):argsOk "reversed.__iter__" ⟨[a],[]⟩:=by unfold argsOk;kernel_rfl
theorem rv_hint_a (a:Value):argsOk "reversed.__length_hint__" ⟨[a],[]⟩:=by unfold argsOk;kernel_rfl
theorem rv_iter_e:entryFor table "reversed.__iter__" = some Builtin.«dict_keyiterator.__iter__»:=
 entryFor_alias (id':="dict_keyiterator.__iter__") (by kernel_rfl) (by first | rfl | decide +kernel | (unfold String.splitOn;simp +decide [String.splitOnAux])) (by decide +kernel) (by kernel_rfl)
theorem rv_called:TypeCalled "reversed" "reversed.__new__" "object.__init__":=
 ⟨by decide +kernel,by decide +kernel,⟨_,_,F.mro_reversed⟩,F.made_reversed,by decide +kernel,by rw [isSubtype_type];kernel_rfl,rv_init⟩
theorem tup_norev:typeLookup (.type "tuple") "__reversed__" = pure none:=by rw [typeLookup_type,builtinLookup_eq_fast];kernel_rfl
theorem tup_nodict:isSubtype (.type "tuple") (.type "dict")=pure false:=by rw [isSubtype_type];kernel_rfl
abbrev revT (a:Addr) (i:Int):Obj:={ cls:=.type "reversed",data:=.fields #[.ref a,rawInt i] }
section
variable {prog:Program} {w:World} {A:Around} {E:Value→Shared→Prop} {s:Shared}
set_option maxHeartbeats 1000000 in
theorem rev_newT (a:Addr) (us:Array Value) (n:Nat) (dd:Option Addr) (ss:Array (Option Value)) :
  Meets (Builtin.«reversed.__new__» ⟨[.type "reversed",.ref a],[]⟩) (fun _ R s=>s.heap.get? a=some { cls:=.type "tuple",dict:=dd,data:=.seq us n,slots:=ss }∧(us.size:Int) < 2 ^ 63∧∀ tk,R (.ok (.ret (.ref s.heap.objs.size))) { s with heap:=s.heap.push (revT a ((us.size:Int) - 1)),toks:=tk }):=
 .of_wp fun prog w A R s h=>by
  obtain ⟨h0,g0,d0,t0,o0⟩:=s
  obtain ⟨ea,hz,h⟩:=h
  have isT:IsTup (Shared.heap ⟨h0,g0,d0,t0,o0⟩) a us:=⟨_,ea,rfl,n,rfl⟩
  have ty:Shared.TypeIs ⟨h0,g0,d0,t0,o0⟩ (.ref a) "tuple":=⟨_,ea,rfl⟩
  unfold Builtin.«reversed.__new__»
  refine wpAny_bind (wpAny_of_eq (newClass_reversed _) ?_)
  try dsimp only
  refine wpAny_bind (wpAny_of_eq (a:=()) (by first | rfl | kernel_rfl) ?_)
  refine wpAny_bind (wpAny_of_eq (a:=()) (by first | rfl | kernel_rfl) ?_)
  try dsimp only
  refine wpAny_bind (wpAny_specialOf ty tup_norev ?_)
  try dsimp only
  refine wpAny_bind ?_
  wp_delta
  refine wpAny_bind (wpAny_isInstance (b:=false) ty tup_nodict ?_)
  rw [if_neg (by decide)]
  refine wpAny_bind (wpAny_specialOf ty F.slot_tuple_getitem.lookup ?_)
  try dsimp only
  rw [if_pos (by decide)]
  refine wpAny_pure ?_
  rw [if_neg (by decide)]
  refine wpAny_bind (len_tuple isT hz ?_)
  refine wpAny_bind (wpAny_of_eq (a:=some (us.size:Int)) rfl ?_)
  try dsimp only
  unfold Builtin.SmallTypes.newRecord
  refine wpAny_bind (wpAny_newObj_type (wpAny_pure ⟨_,rfl,h _⟩))
theorem call_revT {a:Addr} {us:Array Value} {Q:Value→Shared→Prop} (ha:s.heap.IsTuple a us) (hz:(us.size:Int) < 2 ^ 63)
  (q:∀ tk,Q (.ref s.heap.objs.size) { s with heap:=s.heap.push (revT a ((us.size:Int) - 1)),toks:=tk }):wpAny (model prog w) A (call (.type "reversed") [.ref a]) Q E s:=by
 obtain ⟨⟨c,dd,dt,ss⟩,ea,ec,n,ed⟩:=ha
 simp only at ec ed
 subst ec ed
 refine callType_new rv_called (by decide) (F.typeCall_reversed_1 _) (F.newCall_reversed_1 _) (fun ob=>F.args_object_init_2 ob _) F.entry_reversed_new (rev_newT a us n dd ss) ⟨ea,hz,fun tk=>?_⟩
 exact ⟨⟨_,Heap.get?_push_size _ rfl,rfl⟩,q tk⟩
def IsRevT (h:Heap) (r a:Addr) (i:Int):Prop:=∃ o,h.get? r=some o∧o.cls=.type "reversed"∧o.data=.fields #[.ref a,rawInt i]
theorem IsRevT.ty {r a:Addr} {i:Int} (x:IsRevT s.heap r a i):s.TypeIs (.ref r) "reversed":=let ⟨o,e,c,_⟩:=x;⟨o,e,c⟩
theorem revT_item {r a:Addr} {i:Nat} {us:Array Value} {x:Value} {Q:Option Value→Shared→Prop} (ir:IsRevT s.heap r a (i:Int)) (ha:s.heap.IsTuple a us) (hx:us[i]?=some x) (hz:us.size < 2 ^ 62)
  (q:∀ h' tk,IsRevT h' r a ((i:Int) - 1)→Heap.SameBut r s.heap h'→Q (some x) { s with heap:=h',toks:=tk }):wpAny (model prog w) A (pyNext (.ref r)) Q E s:=by
 obtain ⟨orr,er,cr,dr⟩:=id ir
 unfold pyNext
 refine wpAny_bind (wpAny_attempt (wpAny_callSpecial?_slot (name:=Str.ofString "__next__") ir.ty rv_next (wpAny_call_entry rv_next ir.ty rv_next_e ?_ (rv_next_a _))))
 unfold Builtin.«reversed.__next__»
 refine wpAny_bind (wpAny_of_eq (a:=(Value.ref r,[])) rfl ?_)
 try dsimp only
 refine wpAny_bind (wpAny_field er dr (x:=.ref a) rfl ?_)
 refine wpAny_bind (wpAny_field er dr (x:=rawInt (i:Int)) rfl ?_)
 show wpAny _ _ (if (i:Int) < 0 then _ else _) _ _ s
 rw [if_neg (by omega)]
 have ty:s.TypeIs (.ref a) "tuple":=by obtain ⟨o,e,c,_⟩:=ha;exact ⟨o,e,c⟩
 refine wpAny_bind (wpAny_specialOf ty F.slot_tuple_getitem.lookup ?_)
 rw [if_neg (by decide)]
 refine wpAny_bind (wpAny_mkInt ?_)
 have hi:i < us.size:=(Array.getElem?_eq_some_iff.mp hx).1
 have e62:(2:Nat) ^ 62=4611686018427387904:=by decide
 have e63:(2:Int) ^ 63=9223372036854775808:=by decide
 rw [e62] at hz
 refine wpAny_bind (wpAny_attempt (getItem_tuple (k:=(i:Int)) (j:=i) (x:=x) (show IsTup s.heap a us from ha) ?_ ?_ ?_ ?_ ?_))
 ·rw [e63];omega
 ·rw [e63];omega
 ·unfold seqIndex?
  simp
  omega
 ·exact hx
 ·dsimp only
  refine wpAny_bind (wpAny_field er dr (x:=rawInt (i:Int)) rfl ?_)
  show wpAny _ _ (setField (Value.ref r) 1 (rawInt ((i:Int) - 1)) >>= _) _ _ _
  refine wpAny_bind (wpAny_setField er dr (by simp) (wpAny_pure ⟨x,rfl,wpAny_pure (q _ _ ?_ (Heap.SameBut.update ..))⟩))
  exact ⟨_,Heap.get?_update_self _ er (Obj.isFreed_of_fields (Obj.data_mapFields dr _)),(Obj.cls_mapFields ..).trans cr,by rw [Obj.data_mapFields dr];simp [rawInt]⟩
theorem revT_end {r a:Addr} {Q:Option Value→Shared→Prop} (hh:A.handled=none) (ir:IsRevT s.heap r a (-1)) (q:∀ h',Heap.ExtBut r s.heap h'→Q none { s with heap:=h' }):wpAny (model prog w) A (pyNext (.ref r)) Q E s:=by
 obtain ⟨orr,er,cr,dr⟩:=id ir
 unfold pyNext
 refine wpAny_bind (wpAny_attempt (wpAny_callSpecial?_slot (name:=Str.ofString "__next__") ir.ty rv_next (wpAny_call_entry rv_next ir.ty rv_next_e ?_ (rv_next_a _))))
 unfold Builtin.«reversed.__next__»
 refine wpAny_bind (wpAny_of_eq (a:=(Value.ref r,[])) rfl ?_)
 try dsimp only
 refine wpAny_bind (wpAny_field er dr (x:=.ref a) rfl ?_)
 refine wpAny_bind (wpAny_field er dr (x:=rawInt (-1)) rfl ?_)
 show wpAny _ _ (if (-1:Int) < 0 then _ else _) _ _ s
 rw [if_pos (by decide)]
 refine wpAny_bind (wpAny_rule ?_)
 refine wpAny_bind ?_
 wp_delta
 refine wpAny_bind (wpAny_setField er dr (by simp) ?_)
 have er2:=Heap.get?_update_self (Obj.mapFields fun x=>x.setIfInBounds 1 (rawInt (-1))) er (Obj.isFreed_of_fields (Obj.data_mapFields dr _))
 have dr2:(Obj.mapFields (fun x=>x.setIfInBounds 1 (rawInt (-1))) orr).data=.fields #[.ref a,rawInt (-1)]:=by rw [Obj.data_mapFields dr];simp
 refine wpAny_setField er2 dr2 (by simp) ?_
 refine wpAny_bind ?_
 unfold Builtin.SmallTypes.stopIteration
 show wpAny _ _ (newExc (.type "StopIteration") [] >>= _) _ _ _
 refine wpAny_bind ?_
 simp only [newExc,newTuple]
 refine wpAny_bind (wpAny_newObj_type ?_ (by size_fits))
 refine wpAny_bind (m:=firstArgMember _ _) (wpAny_of_eq (a:=Value.none) (by first | rfl | (simp only [firstArgMember];rfl)) ?_)
 refine wpAny_newObj_type ?_ (by size_fits)
 simp only [raiseNew]
 refine wpAny_bind (wpAny_handled ?_)
 first | rw [show A.in1.handled=none from hh] | rw [hh]
 refine wpAny_bind (wpAny_pure (wpAny_throw ?_))
 refine wpAny_bind (wpAny_isInstance (T:="StopIteration") (b:=true) ⟨_,Heap.get?_push_size _ rfl,rfl⟩ isSubtype_stop ?_)
 refine wpAny_pure (q _ fun b o hb e=>?_)
 exact Heap.get?_push_of_some _ (Heap.get?_push_of_some _ ((Heap.get?_update_other _ _ (Ne.symm hb)).trans ((Heap.get?_update_other _ _ (Ne.symm hb)).trans e)))
theorem iter_revT {r a:Addr} {i:Int} {Q:Value→Shared→Prop} (ir:IsRevT s.heap r a i) (q:Q (.ref r) s):wpAny (model prog w) A (pyIter (.ref r)) Q E s:=by
 refine wpAny_pyIter_slot ir.ty rv_iter (wpAny_call_entry rv_iter ir.ty rv_iter_e ?_ (rv_iter_a _))
 show wpAny _ _ (ret (.ref r)) _ _ s
 exact wpAny_pure ⟨_,rfl,"reversed",_,ir.ty,rv_next.lookup,q⟩
end
theorem walks_revT {prog:Program} {w:World} {A:Around} (hh:A.handled=none) (r a:Addr) (hne:a≠r) (us:Array Value) (hz:us.size < 2 ^ 62) :
  Walks prog w A r [r,a] [r] us.size (fun i v=>us[us.size - 1 - i]?=some v) (fun i h=>i≤us.size∧IsRevT h r a ((us.size:Int) - 1 - (i:Int))∧h.IsTuple a us) where
 sub:=fun b hb=>by simp at hb;simp [hb]
 frame:=fun _ _ _ x kp=>⟨x.1,by obtain ⟨o,e,rr⟩:=x.2.1;exact ⟨o,kp r (by simp) o e,rr⟩,by obtain ⟨o,e,rr⟩:=x.2.2;exact ⟨o,kp a (by simp) o e,rr⟩⟩
 item:=fun i s Q E hi x q=>by
  have e1:(us.size:Int) - 1 - (i:Int)=((us.size - 1 - i:Nat):Int):=by omega
  have ir:=x.2.1
  rw [e1] at ir
  have hx:us[us.size - 1 - i]?=some (us[us.size - 1 - i]'(by omega)):=Array.getElem?_eq_getElem (by omega)
  refine revT_item ir x.2.2 hx hz fun h' tk ir' sb=>?_
  have e2:((us.size - 1 - i:Nat):Int) - 1=(us.size:Int) - 1 - ((i + 1:Nat):Int):=by omega
  rw [e2] at ir'
  refine q _ h' tk hx ⟨hi,ir',?_⟩ fun b o hb eo=>(sb.2 b (fun z=>hb (by simp [z]))).trans eo
  obtain ⟨o,eo,rr⟩:=x.2.2
  exact ⟨o,(sb.2 a hne).trans eo,rr⟩
 done:=fun s Q E x q=>by
  have e1:(us.size:Int) - 1 - (us.size:Int) = -1:=by omega
  have ir:=x.2.1
  rw [e1] at ir
  exact revT_end hh ir fun h' ex=>q h' s.toks fun b o hb eo=>ex b o (fun z=>hb (by simp [z])) eo
 self:=fun _ _ _ _ x q=>iter_revT x.2.1 q
theorem rv_nolen:typeLookup (.type "reversed") "__len__" = pure none:=by rw [typeLookup_type,builtinLookup_eq_fast];kernel_rfl
section
variable {prog:Program} {w:World} {A:Around} {E:Value→Shared→Prop} {s:Shared}
theorem hint_revT {r a:Addr} {i:Nat} {us:Array Value} {Q:Value→Shared→Prop} (ir:IsRevT s.heap r a ((i:Int) - 1)) (ha:s.heap.IsTuple a us) (hi:i≤us.size) (hz:us.size < 2 ^ 62)
  (q:∀ t tk,Q (.int (i:Int) t) { s with toks:=tk }):wpAny (model prog w) A (call (.builtin "reversed.__length_hint__") [.ref r]) Q E s:=by
 obtain ⟨orr,er,cr,dr⟩:=id ir
 have e62:(2:Nat) ^ 62=4611686018427387904:=by decide
 have e63:(2:Int) ^ 63=9223372036854775808:=by decide
 rw [e62] at hz
 refine wpAny_call_entry rv_hint ir.ty rv_hint_e ?_ (rv_hint_a _)
 unfold Builtin.«reversed.__length_hint__»
 refine wpAny_bind (wpAny_of_eq (a:=Value.ref r) rfl ?_)
 refine wpAny_bind (wpAny_field er dr (x:=.ref a) rfl ?_)
 rw [if_neg (show ¬ ((Value.ref a == Value.none)=true) from Bool.false_ne_true)]
 refine wpAny_bind (len_tuple (show IsTup s.heap a us from ha) (by rw [e63];omega) ?_)
 refine wpAny_bind (wpAny_of_eq (a:=some (us.size:Int)) rfl ?_)
 try dsimp only
 refine wpAny_bind (wpAny_field er dr (x:=rawInt ((i:Int) - 1)) rfl ?_)
 show wpAny _ _ (if (us.size:Int) < (i:Int) - 1 + 1 then _ else _) _ _ _
 rw [if_neg (by omega)]
 have e1:(i:Int) - 1 + 1=(i:Int):=by omega
 rw [e1]
 refine wpAny_bind (wpAny_mkInt (wpAny_pure ⟨_,rfl,q _ _⟩))
set_option maxHeartbeats 1000000 in
theorem lhint_revT {r a:Addr} {i:Nat} {us:Array Value} {Q:Bool→Shared→Prop} (ir:IsRevT s.heap r a ((i:Int) - 1)) (ha:s.heap.IsTuple a us) (hi:i≤us.size) (hz:us.size≤sizeLine)
  (q:∀ b tk,Q b { s with toks:=tk }):wpAny (model prog w) A (Builtin.List.listLengthHint (.ref r)) Q E s:=by
 unfold Builtin.List.listLengthHint
 refine wpAny_bind (wpAny_specialOf ir.ty rv_nolen ?_)
 try dsimp only
 rw [if_neg (by decide),if_neg (by decide)]
 refine wpAny_bind (wpAny_specialOf ir.ty rv_hint.lookup ?_)
 have sp:splitId "reversed.__length_hint__" = some ("reversed","__length_hint__"):=by decide +kernel
 dsimp only
 rw [sp]
 dsimp only
 refine wpAny_bind (wpAny_isInstance (b:=true) ir.ty (by rw [isSubtype_type];kernel_rfl) ?_)
 rw [if_neg (by decide),if_neg (by decide +kernel)]
 refine wpAny_bind (wpAny_rule ?_)
 refine wpAny_bind (wpAny_of_eq (rv_hint.bind _) ?_)
 have h62:us.size < 2 ^ 62:=Nat.lt_of_le_of_lt hz (by decide +kernel)
 refine wpAny_bind (wpAny_attempt (hint_revT ir ha hi h62 fun t tk=>?_))
 dsimp only
 have zs:sizeLine < 2 ^ 62:=by decide +kernel
 have e62:(2:Nat) ^ 62=4611686018427387904:=by decide
 have e63:(2:Int) ^ 63=9223372036854775808:=by decide
 rw [e62] at zs
 have z0:(0:Int)≤(i:Int):=by omega
 have z1:(i:Int)≤(sizeLine:Int):=by omega
 have z2:(i:Int).toNat≤sizeLine:=by omega
 generalize (i:Int)=zi at z0 z1 z2 ⊢
 refine wpAny_bind (wpAny_pure ?_)
 show wpAny _ _ (if (!Builtin.List.listFitsIndex zi)=true then _ else _) _ _ _
 rw [fitsIndex_both (by rw [e63];omega) (by rw [e63];omega),if_neg (by decide),if_neg (by omega),notLongL z2,if_neg (by decide)]
 exact wpAny_pure (q _ _)
set_option maxHeartbeats 1000000 in
theorem extend_revT {R:Result→Shared→Prop} {r a B:Addr} {us:Array Value} {c:Nat} (hh:A.handled=none) (ir:IsRevT s.heap r a ((us.size:Int) - 1)) (ha:s.heap.IsTuple a us) (hz:us.size≤sizeLine) (hra:a≠r) (hB:s.heap.get? B=some { cls:=.type "list",data:=.seq #[] c }) (hBr:B≠r) (hBa:B≠a)
  (q:∀ h' tk acc c',(∀ b o,b≠B→b≠r→s.heap.get? b=some o→h'.get? b=some o)→h'.get? B=some { cls:=.type "list",dict:=none,data:=.seq acc c',slots:=#[] }→ItemsOf (fun i v=>us[us.size - 1 - i]?=some v) acc us.size→R (.ok (.ret .none)) { s with heap:=h',toks:=tk }) :
  wpAny (model prog w) A.in1 (Builtin.List.listExtendWith (.ref B) (.ref r) .none)
   (fun fin s'=>match fin with | .done f=>R (.ok f) s' | .again c'=>c'.quiet=true∧codeAny (model prog w) A c' R s') (fun e s'=>R (.error e) s') s:=by
 have W:=walks_revT (prog:=prog) (w:=w) (A:=A.in1) hh r a hra us (Nat.lt_of_le_of_lt hz (by decide +kernel))
 have st0:0≤us.size∧IsRevT s.heap r a ((us.size:Int) - 1 - ((0:Nat):Int))∧s.heap.IsTuple a us:=⟨Nat.zero_le _,by simpa using ir,ha⟩
 have hBf:B ∉ [r,a]:=by simp [hBr,hBa]
 unfold Builtin.List.listExtendWith
 refine wpAny_bind (wpAny_typeOf ir.ty ?_)
 have k1:Builtin.List.listSameRef (.ref B) (.ref r)=false:=by simp [Builtin.List.listSameRef,hBr]
 rw [if_neg (by rw [k1];decide)]
 refine wpAny_bind (iter_revT ir ?_)
 refine wpAny_bind (wpAny_holding (lhint_revT (i:=us.size) ir ha (Nat.le_refl _) hz fun b tk=>?_))
 have loop:∀ (h2:Heap) (tk2 c2:Nat),(∀ b o,b≠B→s.heap.get? b=some o→h2.get? b=some o)→h2.get? B=some { cls:=.type "list",data:=.seq #[] c2 } →
   codeAny (model prog w) A (.builtin "list.extend.loop" ⟨[.ref B,.ref r,.none],[]⟩) R { s with heap:=h2,toks:=tk2 }:=by
  intro h2 tk2 c2 kp eB
  have st2:=W.frame 0 s.heap h2 st0 fun b hb o e=>kp b o (fun z=>hBf (z ▸ hb)) e
  refine codeAny_extend_loopS W.toS hz _ hBf _ us.size 0 { s with heap:=h2,toks:=tk2 } _ _ rfl (Nat.zero_le _) st2 eB (ItemsOf.nil _) fun s' acc' c' hm hB' hacc=>?_
  rw [Moved.eq_with hm]
  refine q s'.heap s'.toks acc' c' (fun b o n1 n2 e=>hm.heap b o (fun z=>?_) (kp b o n1 e)) hB' hacc
  simp only [List.mem_cons,List.not_mem_nil,or_false] at z
  rcases z with z | z
  ·exact n1 z
  ·exact n2 z
 cases b with
 | false=>
  rw [if_neg (by decide +kernel)]
  exact wpAny_pure ⟨plainId_quiet F.plain_extend_loop _,loop s.heap tk c (fun b o _ e=>e) hB⟩
 | true=>
  rw [if_pos (by rfl)]
  refine wpAny_bind (wpAny_rule (wpAny_bind ?_))
  unfold Builtin.List.listTouch
  show wpAny _ _ (updateSeq B (fun x=>x.push .none) >>= fun _=>updateSeq B (fun x=>x.pop)) _ _ _
  refine wpAny_bind (wpAny_updateSeq hB rfl ?_)
  have eB1:=Heap.get?_update_self (Obj.mapSeq (fun x:Array Value=>x.push Value.none)) hB rfl
  refine wpAny_updateSeq eB1 rfl ?_
  have eB2:=Heap.get?_update_self (Obj.mapSeq (fun x:Array Value=>x.pop)) eB1 rfl
  refine wpAny_pure ⟨plainId_quiet F.plain_extend_loop _,loop _ tk _ (fun b o n1 e=>?_) eB2⟩
  exact (Heap.get?_update_other _ _ (Ne.symm n1)).trans ((Heap.get?_update_other _ _ (Ne.symm n1)).trans e)
theorem init_revT {R:Result→Shared→Prop} {r a B:Addr} {us:Array Value} (hh:A.handled=none) (ir:IsRevT s.heap r a ((us.size:Int) - 1)) (ha:s.heap.IsTuple a us) (hz:us.size≤sizeLine) (hra:a≠r) (hB:s.heap.get? B=some { cls:=.type "list",data:=.seq #[] }) (hBr:B≠r) (hBa:B≠a)
  (q:∀ h' tk acc c',(∀ b o,b≠B→b≠r→s.heap.get? b=some o→h'.get? b=some o)→h'.get? B=some { cls:=.type "list",dict:=none,data:=.seq acc c',slots:=#[] }→ItemsOf (fun i v=>us[us.size - 1 - i]?=some v) acc us.size→R (.ok (.ret .none)) { s with heap:=h',toks:=tk }) :
  wpAny (model prog w) A.in1 (Builtin.«list.__init__» ⟨[.ref B,.ref r],[]⟩)
   (fun fin s'=>match fin with | .done f=>R (.ok f) s' | .again c'=>c'.quiet=true∧codeAny (model prog w) A c' R s') (fun e s'=>R (.error e) s') s:=by
 show wpAny _ _ (do let old ← Builtin.List.listItems (.ref B);Builtin.List.listUpdate (.ref B) (fun _=>#[]);letGo old.toList.reverse;Builtin.List.listExtendWith (.ref B) (.ref r) .none) _ _ s
 refine wpAny_bind ?_
 unfold Builtin.List.listItems
 refine wpAny_bind (wpAny_seqItems hB rfl (wpAny_pure ?_))
 show wpAny _ _ (updateSeq B (fun _=>#[]) >>= fun _=>letGo (#[]:Array Value).toList.reverse >>= fun _=>Builtin.List.listExtendWith (.ref B) (.ref r) .none) _ _ s
 refine wpAny_bind (wpAny_updateSeq hB rfl ?_)
 have eB:=Heap.get?_update_self (Obj.mapSeq (fun _=>(#[]:Array Value))) hB rfl
 have kp:∀ b o,b≠B→s.heap.get? b=some o→(s.heap.update B (Obj.mapSeq (fun _=>(#[]:Array Value)))).get? b=some o:=fun b o n e=>(Heap.get?_update_other _ _ (Ne.symm n)).trans e
 refine wpAny_bind (wpAny_letGo ?_)
 refine extend_revT hh ?_ ?_ hz hra eB hBr hBa fun h' tk acc c' hk hB' hacc=>q h' tk acc c' (fun b o n1 n2 e=>hk b o n1 n2 (kp b o n1 e)) hB' hacc
 ·obtain ⟨o,e,rr⟩:=ir;exact ⟨o,kp r o (Ne.symm hBr) e,rr⟩
 ·obtain ⟨o,e,rr⟩:=ha;exact ⟨o,kp a o (Ne.symm hBa) e,rr⟩
theorem call_list_revT {r a:Addr} {us:Array Value} {Q:Value→Shared→Prop} (hh:A.handled=none) (ir:IsRevT s.heap r a ((us.size:Int) - 1)) (ha:s.heap.IsTuple a us) (hz:us.size≤sizeLine) (hra:a≠r)
  (q:∀ h' tk acc c',(∀ b o,b≠r→s.heap.get? b=some o→h'.get? b=some o)→h'.get? s.heap.objs.size=some { cls:=.type "list",dict:=none,data:=.seq acc c',slots:=#[] }→ItemsOf (fun i v=>us[us.size - 1 - i]?=some v) acc us.size→Q (.ref s.heap.objs.size) { s with heap:=h',toks:=tk }) :
  wpAny (model prog w) A (call (.type "list") [.ref r]) Q E s:=by
 refine callType_codes (Q₁:=fun ob s1=>ob=.ref s.heap.objs.size∧s1={ s with heap:=s.heap.push { cls:=.type "list",data:=.seq #[] } }) F.called_list (F.typeCall_list_1 _) F.entry_list_init (code_list_new _ ⟨rfl,rfl⟩) fun ob s1 h1=>?_
 obtain ⟨rfl,rfl⟩:=h1
 have eB:(s.heap.push { cls:=.type "list",data:=.seq #[] }).get? s.heap.objs.size=some { cls:=.type "list",data:=.seq #[] }:=Heap.get?_push_size _ rfl
 have lr:s.heap.objs.size≠r:=by obtain ⟨o,e,_⟩:=ir;exact Nat.ne_of_gt (Heap.lt_size e)
 have la:s.heap.objs.size≠a:=by obtain ⟨o,e,_⟩:=ha;exact Nat.ne_of_gt (Heap.lt_size e)
 refine ⟨⟨_,eB,rfl⟩,F.args_list_init_2 _ _,init_revT (A:=A.in1) hh ?_ ?_ hz hra eB lr la fun h' tk acc c' hk hB' hacc=>?_⟩
 ·obtain ⟨o,e,rr⟩:=ir;exact ⟨o,Heap.get?_push_of_some _ e,rr⟩
 ·obtain ⟨o,e,rr⟩:=ha;exact ⟨o,Heap.get?_push_of_some _ e,rr⟩
 ·exact ⟨rfl,q h' tk acc c' (fun b o n e=>hk b o (Nat.ne_of_lt (Heap.lt_size e)) n (Heap.get?_push_of_some _ e)) hB' hacc⟩
end
def tListRev (K:PySem.W.Frag) (t:TE):TE:=fun σ H Q=>t σ H fun x H1=>∃ a xs,x=.ref a∧SqT K H1 a xs∧∀ p,H1 p=none→Q (.ref p) (upd H1 p (.lst xs.reverse))
section
variable {X:Cx} {e:Expr} {t:TE} {p p2 pos pos2:Pos}
set_option maxHeartbeats 1000000 in
theorem pe_listrev (hc:X.calm=true) (ha:PE X e t) (g1:Gl X "list") (m1:X.mg "list" = none) (g2:Gl X "reversed") (m2:X.mg "reversed" = none)
  (he1:starEach [.Call (.Name "reversed" p2) [e] [] pos2] X.env=[(false,eval (.Call (.Name "reversed" p2) [e] [] pos2) X.env)]:=by rfl) (he2:starEach [e] X.env=[(false,eval e X.env)]:=by rfl) :
  PE X (.Call (.Name "list" p) [.Call (.Name "reversed" p2) [e] [] pos2] [] pos) (tListRev X.K t):=by
 intro pins s σ H Q I h
 have hl:bootBuiltins "list" = some (.type "list"):=by decide +kernel
 have hr:bootBuiltins "reversed" = some (.type "reversed"):=by decide +kernel
 refine wpAny_Call_Name_kw (ld_blt I g1 m1 hl ?_)
 refine PyProof.Rows.callWith_type1 ?_ he1 rfl
 rw [he1]
 show wpAny _ _ (spliced [(false,eval (.Call (.Name "reversed" p2) [e] [] pos2) X.env)]) _ _ _
 refine Calls.spliced_cons ?_
 refine wpAny_Call_Name_kw (ld_blt (I.tok _) g2 m2 hr ?_)
 refine PyProof.Rows.callWith_type1 ?_ he2 rfl
 rw [he2]
 show wpAny _ _ (spliced [(false,eval e X.env)]) _ _ _
 refine Calls.spliced_cons (thn (ha pins _ σ H _ (I.tok _) h) fun u s1 ⟨x,H1,I1,rx,a,xs,ex,hq,q⟩=>Calls.spliced_nil ?_)
 subst ex
 cases rx
 obtain ⟨its,rv,p1,hz⟩:=I1.tuple hq
 have hln:=rv.length
 have zs:sizeLine < 2 ^ 62:=by decide +kernel
 have e62:(2:Nat) ^ 62=4611686018427387904:=by decide
 have e63:(2:Int) ^ 63=9223372036854775808:=by decide
 rw [e62] at zs
 refine call_revT p1 (by rw [List.size_toArray,e63];omega) fun tk=>Calls.spliced_nil ?_
 have hlt:a < s1.heap.objs.size:=by obtain ⟨o,e,_⟩:=p1;exact Heap.lt_size e
 refine call_list_revT (us:=its.toArray) (a:=a) (I.ok.hd hc) ⟨_,Heap.get?_push_size _ rfl,rfl,rfl⟩ (by obtain ⟨o,e,rr⟩:=p1;exact ⟨o,Heap.get?_push_of_some _ e,rr⟩) (by rw [List.size_toArray];omega) (Nat.ne_of_lt hlt) fun h' tk' acc c' hk hB hacc=>?_
 have sz:(s1.heap.push (revT a ((its.toArray.size:Int) - 1))).objs.size=s1.heap.objs.size + 1:=Heap.size_push ..
 have eacc:acc=its.reverse.toArray:=by
  obtain ⟨hs,hat⟩:=hacc
  have hs:acc.size=its.length:=by simpa using hs
  apply Array.ext'
  apply List.ext_getElem?
  intro i
  rw [Array.getElem?_toList]
  by_cases hi:i < its.length
  ·have e1:acc[i]?=some (acc[i]'(by omega)):=Array.getElem?_eq_getElem (by omega)
   have e2:=hat i _ e1
   rw [e1,List.getElem?_reverse hi,← e2]
   simp
  ·rw [Array.getElem?_eq_none (by omega),List.getElem?_eq_none (by rw [List.length_reverse];omega)]
 have kp:∀ b o,s1.heap.get? b=some o→h'.get? b=some o:=fun b o eo=>hk b o (Nat.ne_of_lt (Heap.lt_size eo)) (Heap.get?_push_of_some _ eo)
 have hfr:H1 (s1.heap.push (revT a ((its.toArray.size:Int) - 1))).objs.size=none:=I1.hok.fresh (by rw [sz];exact Nat.le_succ _)
 refine ⟨.ref _,_,I1.laid (t':=tk') (o:=.lst xs.reverse) kp (by rw [sz];exact Nat.le_succ _) ⟨by rw [List.length_reverse];exact hz,its.reverse,c',rv.reverse,?_⟩,rfl,q _ hfr⟩
 rw [← eacc]
 exact hB
end
end L2
set_option Elab.async false
set_option linter.all false
set_option maxRecDepth 100000
namespace L2
open PySem PySem.Spec PyProof.Rows QL Pic
section
variable {prog:Program} {w:World} {A:Around} {E:Value→Shared→Prop}
theorem draw_lst {i0 a:Addr} {us:Array Value} (hne:a≠i0):∀ (n i:Nat) (s:Shared) (Q:List Value→Shared→Prop),s.heap.IsListIter i0 a i→s.heap.IsList a us→i + n≤us.size →
  (∀ h',h'.IsListIter i0 a (i + n)→Heap.SameBut i0 s.heap h'→Q ((us.toList.drop i).take n) { s with heap:=h' })→wpAny (model prog w) A (draw (.ref i0) n) Q E s
 | 0,i,s,Q,ii,ha,hn,q=>by
  unfold draw
  have:=q s.heap ii (Heap.SameBut.refl _ _)
  rw [List.take_zero] at this
  exact wpAny_pure this
 | n + 1,i,s,Q,ii,ha,hn,q=>by
  have hx:us[i]?=some (us[i]'(by omega)):=Array.getElem?_eq_getElem (by omega)
  unfold draw
  refine wpAny_bind (wpAny_pyNext_list_item ii ha hx fun h1 i1 s1=>?_)
  dsimp only
  have ha1:Heap.IsList h1 a us:=by obtain ⟨o,e,rr⟩:=ha;exact ⟨o,(s1.2 a hne).trans e,rr⟩
  refine wpAny_bind (wpAny_holding (draw_lst hne n (i + 1) { s with heap:=h1 } _ i1 ha1 (by omega) fun h2 i2 s2=>?_))
  refine wpAny_pure ?_
  have:=q h2 (by rw [show i + (n + 1)=i + 1 + n by omega];exact i2) (s1.trans s2)
  have e:us.toList.drop i=us[i]'(by omega) :: us.toList.drop (i + 1):=by
   rw [List.drop_eq_getElem_cons (by simpa using (by omega:i < us.size))]
   simp
  rw [e,List.take_succ_cons] at this
  exact this
theorem unpack_lst {s:Shared} {a:Addr} {us:Array Value} {targets:List (Bool × (Value→Sem Unit))} {Q:Unit→Shared→Prop} (hh:A.handled=none) (ha:s.heap.IsList a us)
  (hn:targets.length=us.size) (hs:targets.findIdx? (·.1)=none)
  (q:∀ h',Heap.ExtBut s.heap.objs.size s.heap h'→wpAny (model prog w) A (assignInOrder (targets.map (·.2)) us.toList) Q E { s with heap:=h' }) :
  wpAny (model prog w) A (unpack (.ref a) targets) Q E s:=by
 have hlt:a≠s.heap.objs.size:=by obtain ⟨o,ho,_⟩:=ha;exact Nat.ne_of_lt (Heap.lt_size ho)
 have ty:s.TypeIs (.ref a) "list":=by obtain ⟨o,ho,hc,_⟩:=ha;exact ⟨o,ho,hc⟩
 unfold unpack
 rw [hn,hs]
 refine wpAny_bind (wpAny_holding ?_)
 unfold unpackItems
 refine wpAny_bind ?_
 unfold notIterableAtAll
 refine wpAny_bind (wpAny_specialOf ty PySem.F.slot_list_iter.lookup ?_)
 refine wpAny_pure ?_
 simp only [Bool.false_eq_true,if_false]
 refine wpAny_bind (wpAny_holding (wpAny_pyIter_list ha ?_))
 have hap:Heap.IsList (s.heap.push { cls:=.type "list_iterator",data:=.fields #[.ref a,.int 0 0] }) a us:=ha.push _
 refine wpAny_bind (wpAny_holding (draw_lst hlt us.size 0 _ _ ⟨_,Heap.get?_push_size _ rfl,rfl,rfl⟩ hap (by omega) fun h1 i1 s1=>?_))
 have al:List.take us.size (List.drop 0 us.toList)=us.toList:=by rw [List.drop_zero];exact List.take_of_length_le (by simp)
 rw [al,if_neg (by simp)]
 have ha1:Heap.IsList h1 a us:=by obtain ⟨o,e,rr⟩:=hap;exact ⟨o,(s1.2 a hlt).trans e,rr⟩
 refine wpAny_bind (wpAny_holding (wpAny_pyNext_list_end hh i1 ha1 (by simp) fun h2 e2=>?_))
 simp only [Option.isSome_none,Bool.false_eq_true,if_false]
 exact wpAny_pure (q h2 fun b o hb e=>e2 b o hb (s1.extBut b o hb (Heap.get?_push_of_some _ e)))
end
def gTupL (K:PySem.W.Frag) (n:Nat) (t:TGs):TG:=fun v σ H Q=>∃ a xs,v=.ref a∧SqL K H a xs∧xs.length=n∧t xs σ H Q
theorem pg_tupL {X:Cx} {es:List Expr} {k:Nat} {t:TGs} {n:Nat} {pos:Pos} (hc:X.calm=true) (h:PGs X es t)
  (hn:(assignEach es X.env).length=n:=by rfl) (hst:(assignEach es X.env).findIdx? (·.1)=none:=by rfl):PG X (.Tuple es k pos) (gTupL X.K n t):=by
 intro pins s σ H v u Q I r hw
 obtain ⟨a,xs,e1,hq,hl,hw⟩:=hw
 subst e1
 cases r
 obtain ⟨its,rv,pl,hz⟩:=I.list hq
 rw [arm_assign_Tuple]
 refine wpAny_bind (wpAny_standAt (unpack_lst (us:=its.toArray) (I.ok.hd hc) pl.isList (by simp [hn,← hl,rv.length]) hst fun h' hx=>?_))
 have I1:Inv X pins σ H { s with heap:=h' }:=I.kept (t':=s.toks) fun b o e=>hx b o (Nat.ne_of_lt (Heap.lt_size e)) e
 exact h pins _ σ H xs _ Q I1 (by simpa using rv) hw
end L2
set_option Elab.async false
set_option linter.all false
set_option maxRecDepth 100000
set_option maxHeartbeats 4000000
namespace Q15
open PySem L2 Pic QL
local macro_rules | `(tactic| walk_at "wp")=>`(tactic| simp only [tSeq,tB,tNext,tDrop,tRet,tRetN,tIfS,tBreak,tCont,tAsg,gName,gSub,gTup,gCons,gNil,tC,tVar,tOp,tUn,tTest,tNot,tAnd,tOr,tAndV,tOrV,tNotV,tChain,tChain3,tRaise,tTryAs,tRaiseI,tTryAsO,tTryEx,tTryExO,tTryEx0,tTryNone,tTryNoneI,tMakeX,rCount,rClear,rPop,rRep,gTupL,rCatG,rEqF,tRevS,tMaxD,tListRev,iEnumT,rInsert,rFind,rEqT,tLenSetL,rAny,rReverse,rExtend,tBM0,sDPut,tDNewK,tDGet2,sFld,tFld,tMake,tMeth,tMethP,tMethX,iEnum,iEnumS,tXFld,sXSet,tCallX,iZip,rSlT,rSplit,rSplitL,rPart,rStarts,rEnds,rIntT,rListS,rListD,rDictC,rNeM,tLenSet,tDisp,tPairs,tDGet,tDIn,tDNotIn,rCat,rAll,rLtT,tCB,tCons,tNil,tCall,tPar,tIf,tLst,tTup,rI0,rI,rU,rEq,rNe,rIxL,rIxT,rIxS,tSl,tNoPart,tPart,rSlL,rSlS,tBM,tJR,rJoin,rAppend,rIsi,rSetL,iRng1,iRng2,iList,iTup,iRev,iStr,tComp,tForw,blkSt,tNoIf,
 L2.start,List.map_cons,List.map_nil,List.length_cons,List.length_nil,List.replicate,List.cons_append,List.nil_append,List.append_nil,Nat.reduceAdd,Nat.reduceSub,List.getElem?_cons_zero,List.getElem?_cons_succ,List.set_cons_zero,List.set_cons_succ,Option.some.injEq,V.int.injEq,V.str.injEq,V.ref.injEq,V.bl.injEq,List.cons.injEq,and_true,true_and,exists_and_left,exists_eq_left',exists_eq_left,decide_eq_true_eq,Bool.not_eq_true',decide_eq_false_iff_not,cxOf,Cx.blk,scal_ii,scal_ss,scal_bb,isClsV,clsV,Option.join_some,Nat.succ_eq_add_one,Nat.zero_add,exists_const,and_assoc,exists_eq,exists_eq',CMul,CDivP,Int.reducePow,Int.reduceNeg,Int.reduceLT,or_true,true_or,reduceCtorEq,Int.zero_add,↓reduceIte,Bool.false_eq_true,Bool.not_true,Bool.not_false,Cx.wish,Cx.nox])
def top (i:Nat):Stmt:=PySem.Challenge.pw_quiltlaw_k15_grown_trees_laid.main.body.getD i (.Pass ⟨0,0,0,0⟩)
def clsBody:Stmt→List Stmt
 | .ClassDef (body:=b) ..=>b
 | _=>[]
def meth (i j:Nat):Stmt:=(clsBody (top i)).getD j (.Pass ⟨0,0,0,0⟩)
section
variable {P:Program} {w:World} {K:W.Frag} {mg:Str→Option Value} {base:Heap}
abbrev inT (z:Str) (c:Nat):Bool:=!(Builtin.Str.occurrences z ⟨#[c]⟩ 0 z.length 1).isEmpty
abbrev s_only_of:Stmt:=top 27
def onlyB (r:List Nat) (z:Str):Bool:=r.all (inT z)
def sp_only_of:Sp:=fun vs H Q _=>∃ (r:List Nat) (z:Str),vs=[.str (tx r),.str z]∧r.length≤100000∧∀ H',Same H H'→Q (.bl (onlyB r z)) H'
theorem sc_only_of:FnScope ["text","letters"] ["text","letters"] (defScope s_only_of):=⟨rfl,rfl,rfl,by decide +kernel,rfl,by decide +kernel,by decide +kernel⟩
theorem txg {r:List Nat} {i c:Nat} (h:(tx r).cps[i]?=some c):r[i]?=some c:=by
 rw [← h]
 show r[i]?=r.toArray[i]?
 simp
theorem txs (r:List Nat):(tx r).cps.size=r.length:=by show r.toArray.size=_;simp
theorem ok_only_of {f:Addr} {fd:FuncData} (F:Fun K "only_of" "only_of" s_only_of f fd) (nb:NB mg):FnOk P w K mg base CX0 1 f fd ["text","letters"] sp_only_of:=by
 have sc:=sc_only_of
 refine F.ok sc (fun vs H Q E h=>?_) (fun cdv A outer s H vs Q E hr h=>?_)
 ·obtain ⟨r,z,rfl,_⟩:=h;rfl
 ·obtain ⟨r,z,rfl,hr',q⟩:=h
  refine ⟨_,(pss_one (ps_ret (pe_callB (call_all rfl) rfl nb.all bt_all (pa_cons (pe_comp ["sign"] [1] rfl (CompOk.of (by kernel_rfl)) (by kernel_rfl) (pi_str (pv 0))
    (fun _ _ _ _=>(pg_name (i:=0) (by show (["sign","letters"]:List Str).Nodup;decide +kernel) rfl (Or.inl rfl))) (fun _ _ _ _=>pif_nil) (fun _ _ _ _=>(pe_cmpR op_in_str (pv 0) (pv 1) (by with_unfolding_all rfl)))) pa_nil)))),?_⟩
  walk_at "wp"
  refine comp_str (x:=tx r) (fun i acc σ H'=>H'=H∧acc=((r.take i).map (inT z)).map V.bl∧i≤r.length∧∃ x,σ=[x,some (.str z)]) ⟨rfl,rfl,Nat.zero_le _,_,rfl⟩ ?_ ?_ ?_ ?_
  ·rintro i acc σ H' ⟨_,rfl,hi,_⟩
   rw [List.length_map,List.length_map,List.length_take];exact line_big (by omega)
  ·rintro i acc σ H' ⟨_,_,h,_⟩
   rw [txs];exact h
  ·rintro i c acc σ H' hc ⟨rfl,rfl,hi,y,rfl⟩
   have hc':=txg hc
   have hi':=(List.getElem?_eq_some_iff.mp hc').1
   walk_at "wp"
   refine ⟨?_,hi'⟩
   rw [List.take_add_one,hc']
   simp
  ·rintro acc σ H' ⟨rfl,rfl,_⟩ l hl
   refine ⟨_,SqL.of upd_same,?_⟩
   rw [txs,List.take_length]
   have e:(r.map (inT z)).all id=onlyB r z:=by unfold onlyB;rw [List.all_map];rfl
   rw [e]
   exact q _ (same_upd hl)
abbrev s_is_name:Stmt:=top 28
abbrev CAPS:Str:="ABCDEFGHIJKLMNOPQRSTUVWXYZ"
def nameB (r:List Nat):Bool:=decide (1≤r.length) && decide (r.length≤4) && onlyB r CAPS
def sp_is_name:Sp:=fun vs H Q _=>∃ (r:List Nat),vs=[.str (tx r)]∧r.length≤100000∧∀ H',Same H H'→Q (.bl (nameB r)) H'
theorem sc_is_name:FnScope ["text"] ["text"] (defScope s_is_name):=⟨rfl,rfl,rfl,by decide +kernel,rfl,by decide +kernel,by decide +kernel⟩
theorem ok_is_name {f:Addr} {fd:FuncData} {t1 t2:Tok} (F:Fun K "is_name" "is_name" s_is_name f fd) (nb:NB mg) (m_LONGEST_NAME:mg "LONGEST_NAME" = some (.int 4 t1)) (m_CAPITALS:mg "CAPITALS" = some (.str "ABCDEFGHIJKLMNOPQRSTUVWXYZ" t2)) (c_only_of:Cal P w K mg base CX0 1 "only_of" ["text","letters"] sp_only_of):FnOk P w K mg base CX0 2 f fd ["text"] sp_is_name:=by
 have sc:=sc_is_name
 refine F.ok sc (fun vs H Q E h=>?_) (fun cdv A outer s H vs Q E hr h=>?_)
 ·obtain ⟨r,rfl,_⟩:=h;rfl
 ·obtain ⟨r,rfl,hr',q⟩:=h
  refine ⟨_,(pss_one (ps_ret (pe_and (pe_chain op_le op_le pe_int (pe_callB call_len_str rfl nb.len bt_len (pa_cons (pv 0) pa_nil)) (pe_glob (v:=.int 4) rfl m_LONGEST_NAME ⟨_,rfl⟩)) (pe_one (pe_cal c_only_of (hr.mono (by decide)) rfl pass0 (pa_cons (pv 0) (pa_cons (pe_glob (v:=.str "ABCDEFGHIJKLMNOPQRSTUVWXYZ") rfl m_CAPITALS ⟨_,rfl⟩) pa_nil))))))),?_⟩
  walk_at "wp"
  refine ⟨by rw [tx_length];exact line_le (by omega),?_⟩
  rw [tx_length]
  unfold nameB at q
  by_cases h1:1≤r.length
  ·rw [if_pos (by omega)]
   by_cases h2:r.length≤4
   ·rw [if_pos (by omega)]
    refine ⟨r,_,rfl,hr',fun H' sm=>?_⟩
    have z:=q H' sm
    rw [decide_eq_true h1,decide_eq_true h2] at z
    exact z
   ·rw [if_neg (by omega)]
    have z:=q H (fun _ _ e=>e)
    rw [decide_eq_true h1,decide_eq_false h2] at z
    exact z
  ·rw [if_neg (by omega)]
   have z:=q H (fun _ _ e=>e)
   rw [decide_eq_false h1] at z
   exact z
abbrev s_rule_init:Stmt:=meth 29 0
def sp_rule_init (K:W.Frag) (CF:Addr):Sp:=fun vs H Q E=>∃ (a C dx l:Addr) (n:List Nat) (c:Int) (ps:Pic),vs=[.ref a,.str (tx n),.int c,.ref l]∧H a=some (.ins C dx [])∧Cls K C∧NoAttr K C "name"∧NoAttr K C "cost"∧NoAttr K C "part_names"∧H l=some (.lst (rowsV ps)) ∧
 ps.length≤1000∧(∀ r∈n :: ps,r.length≤100000) ∧
 ((∀ r∈n :: ps,nameB r=true)∧1≤c∧c≤9→∀ H',Same H H'→Q .non (upd H' a (.ins C dx [("name",.str (tx n)),("cost",.int c),("part_names",.ref l)]))) ∧
 (¬ ((∀ r∈n :: ps,nameB r=true)∧1≤c∧c≤9)→∀ H',Same H H'→E (.ref CF) none H')
theorem sc_rule_init:FnScope ["self","name","cost","part_names","text"] ["self","name","cost","part_names"] (defScope s_rule_init):=⟨rfl,rfl,rfl,by decide +kernel,rfl,by decide +kernel,by decide +kernel⟩
theorem ok_rule_init {f zga:Addr} {fd:FuncData} (F:Fun K "__init__" "Rule.__init__" s_rule_init f fd) (nb:NB mg) (zza:mg "NoRule" = some (.ref zga)) (zsa:XR K zga) (c_is_name:Cal P w K mg base CX0 2 "is_name" ["text"] sp_is_name):FnOk P w K mg base (CX1 P w) 3 f fd ["self","name","cost","part_names"] (sp_rule_init K zga):=by
 have sc:=sc_rule_init
 refine F.okX sc (fun vs H Q E h=>?_) (fun cdv A outer s H vs Q E hr h=>?_)
 ·obtain ⟨a,C,dx,l,n,c,ps,rfl,_⟩:=h;rfl
 ·obtain ⟨a,C,dx,l,n,c,ps,rfl,ha,cl,n1,n2,n3,hl,hpl,hrl,good,bad⟩:=h
  refine ⟨_,(pss_cons (ps_forw PassesOwn.leaving rfl (pi_list (pe_op op_cat (pe_lst (pa_cons (pv 1) pa_nil)) (pv 3))) (pg_name (i:=4) sc.nd rfl (Or.inl rfl))
   (pss_one (ps_if (pt_not (pt_tb (pe_cal (CX:=CX1 P w) c_is_name.lift (hr.mono (by decide)) rfl passes_E0 (pa_cons (pv 4) pa_nil)) fun _=>rfl))
   (pss_one (ps_raiseX zsa rfl rfl zza (makes_up fun _ _ _ h=>h) (pa_consS pa_nil)))
   pss_nil)))
   (pss_cons (ps_if (PW.pt (pw_or (pt_cmpR op_lt (pv 2) pe_int (nomark _)) (pw_or1 (pt_cmpR op_gt (pv 2) pe_int (nomark _)))))
   (pss_one (ps_raiseX zsa rfl rfl zza (makes_up fun _ _ _ h=>h) (pa_consS pa_nil)))
   pss_nil)
   (pss_cons (ps_fld (pv 0) (pv 1) rfl)
   (pss_cons (ps_fld (pv 0) (pv 2) rfl)
   (pss_one (ps_fld (pv 0) (pv 3) rfl)))))),?_⟩
  walk_at "wp"
  refine ⟨line_le (by omega),fun p hp=>?_⟩
  have m1:Same H (upd H p (.lst [V.str (tx n)])):=same_upd hp
  have e1:upd H p (.lst [V.str (tx n)]) p=some (.lst [V.str (tx n)]):=upd_same
  generalize upd H p (.lst [V.str (tx n)])=H1 at m1 e1 ⊢
  refine ⟨_,e1,_,m1 _ _ hl,by rw [rowsV_length];exact line_le (by simp;omega),fun p2 hp2=>?_⟩
  have e12:[V.str (tx n)] ++ rowsV ps=rowsV (n :: ps):=rfl
  rw [e12]
  have m2:Same H1 (upd H1 p2 (.lst (rowsV (n :: ps)))):=same_upd hp2
  have e2:upd H1 p2 (.lst (rowsV (n :: ps))) p2=some (.lst (rowsV (n :: ps))):=upd_same
  generalize upd H1 p2 (.lst (rowsV (n :: ps)))=H2 at m2 e2 ⊢
  generalize hqs:n :: ps=qs at hrl good bad e2 ⊢
  have m02:=m1.trans m2
  refine ⟨⟨_,SqL.of e2⟩,forw_list (xs:=rowsV qs) (fun i σ H'=>Same H2 H'∧(∀ r∈qs.take i,nameB r=true)∧∃ x,σ=[some (.ref a),some (.str (tx n)),some (.int c),some (.ref l),x]) ⟨fun _ _ e=>e,by simp,_,rfl⟩ (fun i σ H' _ h=>SqL.of (h.1 _ _ e2)) ?_ ?_⟩
  ·rintro i v σ H' hv ⟨sm,hok,x,rfl⟩
   have hi:i < qs.length:=by have:=(List.getElem?_eq_some_iff.mp hv).1;rwa [rowsV_length] at this
   rw [rowsV_get hi] at hv
   cases hv
   walk_at "wp"
   refine ⟨_,rfl,hrl _ (List.getElem_mem hi),fun H3 sm3=>⟨_,rfl,?_⟩⟩
   by_cases hb:nameB qs[i]=true
   ·rw [if_neg (by rw [hb];decide)]
    refine ⟨sm.trans sm3,fun r hr=>?_⟩
    rw [List.take_add_one,List.getElem?_eq_getElem hi] at hr
    rcases List.mem_append.mp hr with h | h
    ·exact hok r h
    ·rw [show r=qs[i] by simpa using h];exact hb
   ·rw [if_pos (by simpa using hb)]
    exact ⟨line_le (by omega),bad (fun h=>hb (h.1 _ (List.getElem_mem hi))) _ ((m02.trans sm).trans sm3)⟩
  ·rintro σ H' ⟨sm,hok,x,rfl⟩
   rw [rowsV_length,List.take_length] at hok
   have smH:=m02.trans sm
   walk_at "wp"
   by_cases c1:c < 1
   ·rw [if_pos c1]
    exact ⟨line_le (by omega),bad (fun h=>by omega) _ smH⟩
   ·rw [if_neg c1]
    by_cases c9:9 < c
    ·rw [if_pos c9]
     exact ⟨line_le (by omega),bad (fun h=>by omega) _ smH⟩
    ·rw [if_neg c9]
     have g:=good ⟨hok,by omega,by omega⟩ H' smH
     have l1:(putF "name" (V.str (tx n)) []).length≤1:=length_putF _ _ _
     have l2:(putF "cost" (V.int c) (putF "name" (V.str (tx n)) [])).length≤2:=Nat.le_trans (length_putF _ _ _) (by omega)
     have d1:¬ (("name":Str) = "cost"):=by decide +kernel
     have d2:¬ (("name":Str) = "part_names"):=by decide +kernel
     have d3:¬ (("cost":Str) = "part_names"):=by decide +kernel
     have e:putF "part_names" (V.ref l) (putF "cost" (V.int c) (putF "name" (V.str (tx n)) []))=[(("name":Str),V.str (tx n)),(("cost":Str),V.int c),(("part_names":Str),V.ref l)]:=by
      simp only [putF,if_neg d1,if_neg d2,if_neg d3]
     refine ⟨C,dx,[],smH _ _ ha,cl,n1,by simp,C,dx,_,upd_same,cl,n2,by omega,C,dx,_,upd_same,cl,n3,by omega,?_⟩
     rw [upd_upd,upd_upd,e]
     exact g
def SameX (a:Addr) (H H':Hp):Prop:=∀ b o,b≠a→H b=some o→H' b=some o
theorem SameX.of {a:Addr} {H H':Hp} (s:Same H H'):SameX a H H':=fun b o _ e=>s b o e
theorem SameX.put {a:Addr} {H H':Hp} {o:HO} (s:SameX a H H'):SameX a H (upd H' a o):=fun b u hb e=>by rw [upd_ne hb];exact s b u hb e
theorem SameX.then {a:Addr} {H H' H2:Hp} (s:SameX a H H') (t:Same H' H2):SameX a H H2:=fun b u hb e=>t b u (s b u hb e)
theorem SameX.trans {a:Addr} {H H' H2:Hp} (s:SameX a H H') (t:SameX a H' H2):SameX a H H2:=fun b u hb e=>t b u hb (s b u hb e)
abbrev SMLS:Str:="abcdefghijklmnopqrstuvwxyz"
def signB (r:List Nat):Bool:=decide (r.length=1) && onlyB r SMLS
def ruleOk (n:List Nat) (ps:Pic) (c:Int):Prop:=(∀ r∈n :: ps,nameB r=true)∧1≤c∧c≤9
abbrev s_cell_init:Stmt:=meth 30 0
def sp_cell_init (K:W.Frag) (CF:Addr):Sp:=fun vs H Q E=>∃ (a C dx:Addr) (n sg:List Nat) (c:Int),vs=[.ref a,.str (tx n),.int c,.str (tx sg)]∧H a=some (.ins C dx [])∧Cls K C∧(NoAttr K C "name"∧NoAttr K C "cost"∧NoAttr K C "part_names"∧NoAttr K C "sign")∧n.length≤100000∧sg.length≤100000 ∧
 (ruleOk n [] c∧signB sg=true→∀ (l:Addr) (H':Hp),SameX a H H'→H l=none→H' l=some (.lst [])→H' a=some (.ins C dx [("name",.str (tx n)),("cost",.int c),("part_names",.ref l),("sign",.str (tx sg))])→Q .non H') ∧
 (¬ (ruleOk n [] c∧signB sg=true)→∀ H',SameX a H H'→E (.ref CF) none H')
theorem sc_cell_init:FnScope ["self","name","cost","sign"] ["self","name","cost","sign"] (defScope s_cell_init):=⟨rfl,rfl,rfl,by decide +kernel,rfl,by decide +kernel,by decide +kernel⟩
theorem ok_cell_init {f zga:Addr} {fd:FuncData} {t3:Tok} (F:Fun K "__init__" "CellRule.__init__" s_cell_init f fd) (nb:NB mg) (m_SMALLS:mg "SMALLS" = some (.str "abcdefghijklmnopqrstuvwxyz" t3)) (zza:mg "NoRule" = some (.ref zga)) (zsa:XR K zga)
  (c_only_of:Cal P w K mg base CX0 1 "only_of" ["text","letters"] sp_only_of) (zia:CalC P w K mg base (CX1 P w) 3 "Rule" "__init__" ["self","name","cost","part_names"] (sp_rule_init K zga)):FnOk P w K mg base (CX1 P w) 4 f fd ["self","name","cost","sign"] (sp_cell_init K zga):=by
 have sc:=sc_cell_init
 refine F.okX sc (fun vs H Q E h=>?_) (fun cdv A outer s H vs Q E hr h=>?_)
 ·obtain ⟨a,C,dx,n,sg,c,rfl,_⟩:=h;rfl
 ·obtain ⟨a,C,dx,n,sg,c,rfl,ha,cl,⟨n1,n2,n3,n4⟩,hn,hsg,good,bad⟩:=h
  refine ⟨_,(pss_cons (ps_expr (pe_calC (E:=E) zia (hr.mono (by decide)) rfl (passes_up fun _ _ _ h=>h) (pa_cons (pv 0) (pa_cons (pv 1) (pa_cons (pv 2) (pa_cons (pe_lst pa_nil) pa_nil))))))
   (pss_cons (ps_if (PW.pt (pw_or (pt_cmpR op_ne (pe_callB call_len_str rfl nb.len bt_len (pa_cons (pv 3) pa_nil)) pe_int (nomark _)) (pw_or1 (pt_not (pt_tb (pe_cal (CX:=CX1 P w) c_only_of.lift (hr.mono (by decide)) rfl passes_E0 (pa_cons (pv 3) (pa_cons (pe_glob (v:=.str "abcdefghijklmnopqrstuvwxyz") rfl m_SMALLS ⟨_,rfl⟩) pa_nil))) fun _=>rfl)))))
   (pss_one (ps_raiseX zsa rfl rfl zza (makes_up fun _ _ _ h=>h) (pa_consS pa_nil)))
   pss_nil)
   (pss_one (ps_fld (pv 0) (pv 3) rfl)))),?_⟩
  walk_at "wp"
  refine ⟨Nat.zero_le _,fun l hl=>?_⟩
  have m1:Same H (upd H l (.lst [])):=same_upd hl
  have e1:upd H l (.lst []) l=some (.lst []):=upd_same
  generalize upd H l (.lst [])=H1 at m1 e1 ⊢
  have hla:l≠a:=fun e=>by rw [e,ha] at hl;cases hl
  refine ⟨a,C,dx,l,n,c,[],rfl,m1 _ _ ha,cl,n1,n2,n3,e1,by simp,fun r hr=>by rw [show r=n by simpa using hr];exact hn,fun ok H2 sm2=>?_,fun nok H2 sm2=>bad (fun h=>nok h.1) _ (.of (m1.trans sm2))⟩
  have sx:SameX a H (upd H2 a (.ins C dx [("name",.str (tx n)),("cost",.int c),("part_names",.ref l)])):=(SameX.of (m1.trans sm2)).put
  have ea:upd H2 a (.ins C dx [("name",.str (tx n)),("cost",.int c),("part_names",.ref l)]) a=some (.ins C dx [("name",.str (tx n)),("cost",.int c),("part_names",.ref l)]):=upd_same
  have el:upd H2 a (.ins C dx [("name",.str (tx n)),("cost",.int c),("part_names",.ref l)]) l=some (.lst []):=by rw [upd_ne hla];exact sm2 _ _ e1
  generalize upd H2 a (.ins C dx [("name",.str (tx n)),("cost",.int c),("part_names",.ref l)])=H3 at sx ea el ⊢
  dsimp only
  have sgl:signB sg=true→sg.length=1∧onlyB sg SMLS=true:=fun h=>by
   unfold signB at h
   rw [Bool.and_eq_true,decide_eq_true_eq] at h
   exact h
  refine ⟨by rw [tx_length];exact line_le (by omega),?_⟩
  rw [tx_length]
  by_cases h1:(sg.length:Int)=1
  ·rw [if_neg (fun h=>h h1)]
   refine ⟨sg,_,rfl,hsg,fun H4 sm4=>⟨_,rfl,?_⟩⟩
   by_cases hb:onlyB sg SMLS=true
   ·rw [if_neg (by rw [hb];decide)]
    have d1:¬ (("name":Str) = "sign"):=by decide +kernel
    have d2:¬ (("cost":Str) = "sign"):=by decide +kernel
    have d3:¬ (("part_names":Str) = "sign"):=by decide +kernel
    have e:putF "sign" (V.str (tx sg)) [(("name":Str),V.str (tx n)),(("cost":Str),V.int c),(("part_names":Str),V.ref l)]=[(("name":Str),V.str (tx n)),(("cost":Str),V.int c),(("part_names":Str),V.ref l),(("sign":Str),V.str (tx sg))]:=by
     simp only [putF,if_neg d1,if_neg d2,if_neg d3]
    refine ⟨C,dx,_,sm4 _ _ ea,cl,n4,by simp,?_⟩
    rw [e]
    exact good ⟨ok,by unfold signB;rw [decide_eq_true (by omega),hb];rfl⟩ l _ (sx.then sm4).put hl (by rw [upd_ne hla];exact sm4 _ _ el) upd_same
   ·rw [if_pos (by simpa using hb)]
    exact ⟨line_le (by omega),bad (fun h=>hb (sgl h.2).2) _ (sx.then sm4)⟩
  ·rw [if_pos h1]
   exact ⟨line_le (by omega),bad (fun h=>h1 (by have:=(sgl h.2).1;omega)) _ sx⟩
def sp_pair_init (K:W.Frag) (CF:Addr):Sp:=fun vs H Q E=>∃ (a C dx:Addr) (n o1 o2:List Nat) (c:Int),vs=[.ref a,.str (tx n),.int c,.str (tx o1),.str (tx o2)]∧H a=some (.ins C dx [])∧Cls K C∧(NoAttr K C "name"∧NoAttr K C "cost"∧NoAttr K C "part_names"∧NoAttr K C "one"∧NoAttr K C "other")∧n.length≤100000∧o1.length≤100000∧o2.length≤100000 ∧
 (ruleOk n [o1,o2] c→∀ (l:Addr) (H':Hp),SameX a H H'→H l=none→H' l=some (.lst (rowsV [o1,o2]))→H' a=some (.ins C dx [("name",.str (tx n)),("cost",.int c),("part_names",.ref l),("one",.str (tx o1)),("other",.str (tx o2))])→Q .non H') ∧
 (¬ ruleOk n [o1,o2] c→∀ H',SameX a H H'→E (.ref CF) none H')
theorem pair_put {n o1 o2:List Nat} {c:Int} {l:Addr}:putF "other" (V.str (tx o2)) (putF "one" (V.str (tx o1)) [(("name":Str),V.str (tx n)),(("cost":Str),V.int c),(("part_names":Str),V.ref l)])=[(("name":Str),V.str (tx n)),(("cost":Str),V.int c),(("part_names":Str),V.ref l),(("one":Str),V.str (tx o1)),(("other":Str),V.str (tx o2))]:=by
 have d1:¬ (("name":Str) = "one"):=by decide +kernel
 have d2:¬ (("cost":Str) = "one"):=by decide +kernel
 have d3:¬ (("part_names":Str) = "one"):=by decide +kernel
 have d4:¬ (("name":Str) = "other"):=by decide +kernel
 have d5:¬ (("cost":Str) = "other"):=by decide +kernel
 have d6:¬ (("part_names":Str) = "other"):=by decide +kernel
 have d7:¬ (("one":Str) = "other"):=by decide +kernel
 simp only [putF,if_neg d1,if_neg d2,if_neg d3,if_neg d4,if_neg d5,if_neg d6,if_neg d7]
abbrev s_beside_init:Stmt:=meth 31 0
theorem sc_beside_init:FnScope ["self","name","cost","one","other"] ["self","name","cost","one","other"] (defScope s_beside_init):=⟨rfl,rfl,rfl,by decide +kernel,rfl,by decide +kernel,by decide +kernel⟩
theorem ok_beside_init {f zga:Addr} {fd:FuncData} (F:Fun K "__init__" "BesideRule.__init__" s_beside_init f fd) (nb:NB mg)
  (zia:CalC P w K mg base (CX1 P w) 3 "Rule" "__init__" ["self","name","cost","part_names"] (sp_rule_init K zga)):FnOk P w K mg base (CX1 P w) 4 f fd ["self","name","cost","one","other"] (sp_pair_init K zga):=by
 have sc:=sc_beside_init
 refine F.okX sc (fun vs H Q E h=>?_) (fun cdv A outer s H vs Q E hr h=>?_)
 ·obtain ⟨a,C,dx,n,o1,o2,c,rfl,_⟩:=h;rfl
 ·obtain ⟨a,C,dx,n,o1,o2,c,rfl,ha,cl,⟨n1,n2,n3,n4,n5⟩,hn,ho1,ho2,good,bad⟩:=h
  refine ⟨_,(pss_cons (ps_expr (pe_calC (E:=E) zia (hr.mono (by decide)) rfl (passes_up fun _ _ _ h=>h) (pa_cons (pv 0) (pa_cons (pv 1) (pa_cons (pv 2) (pa_cons (pe_lst (pa_cons (pv 3) (pa_cons (pv 4) pa_nil))) pa_nil))))))
   (pss_cons (ps_fld (pv 0) (pv 3) rfl)
   (pss_one (ps_fld (pv 0) (pv 4) rfl)))),?_⟩
  walk_at "wp"
  refine ⟨line_le (by omega),fun l hl=>?_⟩
  have m1:Same H (upd H l (.lst [V.str (tx o1),V.str (tx o2)])):=same_upd hl
  have e1:upd H l (.lst [V.str (tx o1),V.str (tx o2)]) l=some (.lst (rowsV [o1,o2])):=upd_same
  generalize upd H l (.lst [V.str (tx o1),V.str (tx o2)])=H1 at m1 e1 ⊢
  have hla:l≠a:=fun e=>by rw [e,ha] at hl;cases hl
  refine ⟨a,C,dx,l,n,c,[o1,o2],rfl,m1 _ _ ha,cl,n1,n2,n3,e1,by simp,fun r hr=>?_,fun ok H2 sm2=>?_,fun nok H2 sm2=>bad (fun h=>nok h) _ (.of (m1.trans sm2))⟩
  ·have h3:r=n∨r=o1∨r=o2:=by simpa using hr
   rcases h3 with rfl | rfl | rfl
   ·exact hn
   ·exact ho1
   ·exact ho2
  ·have sx:SameX a H (upd H2 a (.ins C dx [("name",.str (tx n)),("cost",.int c),("part_names",.ref l)])):=(SameX.of (m1.trans sm2)).put
   have ea:upd H2 a (.ins C dx [("name",.str (tx n)),("cost",.int c),("part_names",.ref l)]) a=some (.ins C dx [("name",.str (tx n)),("cost",.int c),("part_names",.ref l)]):=upd_same
   have el:upd H2 a (.ins C dx [("name",.str (tx n)),("cost",.int c),("part_names",.ref l)]) l=some (.lst (rowsV [o1,o2])):=by rw [upd_ne hla];exact sm2 _ _ e1
   generalize upd H2 a (.ins C dx [("name",.str (tx n)),("cost",.int c),("part_names",.ref l)])=H3 at sx ea el ⊢
   dsimp only
   refine ⟨C,dx,_,ea,cl,n4,by simp,C,dx,_,upd_same,cl,n5,?_,?_⟩
   ·exact Nat.lt_of_le_of_lt (length_putF _ _ _) (by simp)
   ·rw [upd_upd,pair_put]
    exact good ok l _ sx.put hl (by rw [upd_ne hla];exact el) upd_same
abbrev s_above_init:Stmt:=meth 32 0
theorem sc_above_init:FnScope ["self","name","cost","one","other"] ["self","name","cost","one","other"] (defScope s_above_init):=⟨rfl,rfl,rfl,by decide +kernel,rfl,by decide +kernel,by decide +kernel⟩
theorem ok_above_init {f zga:Addr} {fd:FuncData} (F:Fun K "__init__" "AboveRule.__init__" s_above_init f fd) (nb:NB mg)
  (zia:CalC P w K mg base (CX1 P w) 3 "Rule" "__init__" ["self","name","cost","part_names"] (sp_rule_init K zga)):FnOk P w K mg base (CX1 P w) 4 f fd ["self","name","cost","one","other"] (sp_pair_init K zga):=by
 have sc:=sc_above_init
 refine F.okX sc (fun vs H Q E h=>?_) (fun cdv A outer s H vs Q E hr h=>?_)
 ·obtain ⟨a,C,dx,n,o1,o2,c,rfl,_⟩:=h;rfl
 ·obtain ⟨a,C,dx,n,o1,o2,c,rfl,ha,cl,⟨n1,n2,n3,n4,n5⟩,hn,ho1,ho2,good,bad⟩:=h
  refine ⟨_,(pss_cons (ps_expr (pe_calC (E:=E) zia (hr.mono (by decide)) rfl (passes_up fun _ _ _ h=>h) (pa_cons (pv 0) (pa_cons (pv 1) (pa_cons (pv 2) (pa_cons (pe_lst (pa_cons (pv 3) (pa_cons (pv 4) pa_nil))) pa_nil))))))
   (pss_cons (ps_fld (pv 0) (pv 3) rfl)
   (pss_one (ps_fld (pv 0) (pv 4) rfl)))),?_⟩
  walk_at "wp"
  refine ⟨line_le (by omega),fun l hl=>?_⟩
  have m1:Same H (upd H l (.lst [V.str (tx o1),V.str (tx o2)])):=same_upd hl
  have e1:upd H l (.lst [V.str (tx o1),V.str (tx o2)]) l=some (.lst (rowsV [o1,o2])):=upd_same
  generalize upd H l (.lst [V.str (tx o1),V.str (tx o2)])=H1 at m1 e1 ⊢
  have hla:l≠a:=fun e=>by rw [e,ha] at hl;cases hl
  refine ⟨a,C,dx,l,n,c,[o1,o2],rfl,m1 _ _ ha,cl,n1,n2,n3,e1,by simp,fun r hr=>?_,fun ok H2 sm2=>?_,fun nok H2 sm2=>bad (fun h=>nok h) _ (.of (m1.trans sm2))⟩
  ·have h3:r=n∨r=o1∨r=o2:=by simpa using hr
   rcases h3 with rfl | rfl | rfl
   ·exact hn
   ·exact ho1
   ·exact ho2
  ·have sx:SameX a H (upd H2 a (.ins C dx [("name",.str (tx n)),("cost",.int c),("part_names",.ref l)])):=(SameX.of (m1.trans sm2)).put
   have ea:upd H2 a (.ins C dx [("name",.str (tx n)),("cost",.int c),("part_names",.ref l)]) a=some (.ins C dx [("name",.str (tx n)),("cost",.int c),("part_names",.ref l)]):=upd_same
   have el:upd H2 a (.ins C dx [("name",.str (tx n)),("cost",.int c),("part_names",.ref l)]) l=some (.lst (rowsV [o1,o2])):=by rw [upd_ne hla];exact sm2 _ _ e1
   generalize upd H2 a (.ins C dx [("name",.str (tx n)),("cost",.int c),("part_names",.ref l)])=H3 at sx ea el ⊢
   dsimp only
   refine ⟨C,dx,_,ea,cl,n4,by simp,C,dx,_,upd_same,cl,n5,?_,?_⟩
   ·exact Nat.lt_of_le_of_lt (length_putF _ _ _) (by simp)
   ·rw [upd_upd,pair_put]
    exact good ok l _ sx.put hl (by rw [upd_ne hla];exact el) upd_same
def sp_turn_init (K:W.Frag) (CF:Addr):Sp:=fun vs H Q E=>∃ (a C dx:Addr) (n o1:List Nat) (c t:Int),vs=[.ref a,.str (tx n),.int c,.str (tx o1),.int t]∧H a=some (.ins C dx [])∧Cls K C∧(NoAttr K C "name"∧NoAttr K C "cost"∧NoAttr K C "part_names"∧NoAttr K C "part"∧NoAttr K C "turning")∧n.length≤100000∧o1.length≤100000 ∧
 (ruleOk n [o1] c∧0≤t∧t≤7→∀ (l:Addr) (H':Hp),SameX a H H'→H l=none→H' l=some (.lst (rowsV [o1]))→H' a=some (.ins C dx [("name",.str (tx n)),("cost",.int c),("part_names",.ref l),("part",.str (tx o1)),("turning",.int t)])→Q .non H') ∧
 (¬ (ruleOk n [o1] c∧0≤t∧t≤7)→∀ H',SameX a H H'→E (.ref CF) none H')
theorem turn_put {n o1:List Nat} {c t:Int} {l:Addr}:putF "turning" (V.int t) (putF "part" (V.str (tx o1)) [(("name":Str),V.str (tx n)),(("cost":Str),V.int c),(("part_names":Str),V.ref l)])=[(("name":Str),V.str (tx n)),(("cost":Str),V.int c),(("part_names":Str),V.ref l),(("part":Str),V.str (tx o1)),(("turning":Str),V.int t)]:=by
 have d1:¬ (("name":Str) = "part"):=by decide +kernel
 have d2:¬ (("cost":Str) = "part"):=by decide +kernel
 have d3:¬ (("part_names":Str) = "part"):=by decide +kernel
 have d4:¬ (("name":Str) = "turning"):=by decide +kernel
 have d5:¬ (("cost":Str) = "turning"):=by decide +kernel
 have d6:¬ (("part_names":Str) = "turning"):=by decide +kernel
 have d7:¬ (("part":Str) = "turning"):=by decide +kernel
 simp only [putF,if_neg d1,if_neg d2,if_neg d3,if_neg d4,if_neg d5,if_neg d6,if_neg d7]
abbrev s_turn_init:Stmt:=meth 33 0
theorem sc_turn_init:FnScope ["self","name","cost","part","turning"] ["self","name","cost","part","turning"] (defScope s_turn_init):=⟨rfl,rfl,rfl,by decide +kernel,rfl,by decide +kernel,by decide +kernel⟩
theorem ok_turn_init {f zga:Addr} {fd:FuncData} (F:Fun K "__init__" "TurnRule.__init__" s_turn_init f fd) (nb:NB mg) (zza:mg "NoRule" = some (.ref zga)) (zsa:XR K zga)
  (zia:CalC P w K mg base (CX1 P w) 3 "Rule" "__init__" ["self","name","cost","part_names"] (sp_rule_init K zga)):FnOk P w K mg base (CX1 P w) 4 f fd ["self","name","cost","part","turning"] (sp_turn_init K zga):=by
 have sc:=sc_turn_init
 refine F.okX sc (fun vs H Q E h=>?_) (fun cdv A outer s H vs Q E hr h=>?_)
 ·obtain ⟨a,C,dx,n,o1,c,t,rfl,_⟩:=h;rfl
 ·obtain ⟨a,C,dx,n,o1,c,t,rfl,ha,cl,⟨n1,n2,n3,n4,n5⟩,hn,ho1,good,bad⟩:=h
  refine ⟨_,(pss_cons (ps_expr (pe_calC (E:=E) zia (hr.mono (by decide)) rfl (passes_up fun _ _ _ h=>h) (pa_cons (pv 0) (pa_cons (pv 1) (pa_cons (pv 2) (pa_cons (pe_lst (pa_cons (pv 3) pa_nil)) pa_nil))))))
   (pss_cons (ps_if (PW.pt (pw_or (pt_cmpR op_lt (pv 4) pe_int (nomark _)) (pw_or1 (pt_cmpR op_gt (pv 4) pe_int (nomark _)))))
   (pss_one (ps_raiseX zsa rfl rfl zza (makes_up fun _ _ _ h=>h) (pa_consS pa_nil)))
   pss_nil)
   (pss_cons (ps_fld (pv 0) (pv 3) rfl)
   (pss_one (ps_fld (pv 0) (pv 4) rfl))))),?_⟩
  walk_at "wp"
  refine ⟨line_le (by omega),fun l hl=>?_⟩
  have m1:Same H (upd H l (.lst [V.str (tx o1)])):=same_upd hl
  have e1:upd H l (.lst [V.str (tx o1)]) l=some (.lst (rowsV [o1])):=upd_same
  generalize upd H l (.lst [V.str (tx o1)])=H1 at m1 e1 ⊢
  have hla:l≠a:=fun e=>by rw [e,ha] at hl;cases hl
  refine ⟨a,C,dx,l,n,c,[o1],rfl,m1 _ _ ha,cl,n1,n2,n3,e1,by simp,fun r hr=>?_,fun ok H2 sm2=>?_,fun nok H2 sm2=>bad (fun h=>nok h.1) _ (.of (m1.trans sm2))⟩
  ·have h3:r=n∨r=o1:=by simpa using hr
   rcases h3 with rfl | rfl
   ·exact hn
   ·exact ho1
  ·have sx:SameX a H (upd H2 a (.ins C dx [("name",.str (tx n)),("cost",.int c),("part_names",.ref l)])):=(SameX.of (m1.trans sm2)).put
   have ea:upd H2 a (.ins C dx [("name",.str (tx n)),("cost",.int c),("part_names",.ref l)]) a=some (.ins C dx [("name",.str (tx n)),("cost",.int c),("part_names",.ref l)]):=upd_same
   have el:upd H2 a (.ins C dx [("name",.str (tx n)),("cost",.int c),("part_names",.ref l)]) l=some (.lst (rowsV [o1])):=by rw [upd_ne hla];exact sm2 _ _ e1
   generalize upd H2 a (.ins C dx [("name",.str (tx n)),("cost",.int c),("part_names",.ref l)])=H3 at sx ea el ⊢
   dsimp only
   by_cases t0:t < 0
   ·rw [if_pos t0]
    exact ⟨line_le (by omega),bad (fun h=>by omega) _ sx⟩
   ·rw [if_neg t0]
    by_cases t7:7 < t
    ·rw [if_pos t7]
     exact ⟨line_le (by omega),bad (fun h=>by omega) _ sx⟩
    ·rw [if_neg t7]
     refine ⟨C,dx,_,ea,cl,n4,by simp,C,dx,_,upd_same,cl,n5,?_,?_⟩
     ·exact Nat.lt_of_le_of_lt (length_putF _ _ _) (by simp)
     ·rw [upd_upd,turn_put]
      exact good ⟨ok,by omega,by omega⟩ l _ sx.put hl (by rw [upd_ne hla];exact el) upd_same
abbrev s_rule_parts:Stmt:=meth 29 1
def sp_rule_parts (K:W.Frag):Sp:=fun vs H Q _=>∃ (a C dx l:Addr) (fs:List (Str × V)) (ps:Pic),vs=[.ref a]∧H a=some (.ins C dx fs)∧Cls K C∧NoAttr K C "part_names"∧fs.lookup ("part_names":Str)=some (V.ref l)∧H l=some (.lst (rowsV ps))∧GivesPic H ps Q
theorem sc_rule_parts:FnScope ["self"] ["self"] (defScope s_rule_parts):=⟨rfl,rfl,rfl,by decide +kernel,rfl,by decide +kernel,by decide +kernel⟩
theorem ok_rule_parts {f:Addr} {fd:FuncData} (F:Fun K "parts" "Rule.parts" s_rule_parts f fd) (nb:NB mg):FnOk P w K mg base CX0 1 f fd ["self"] (sp_rule_parts K):=by
 have sc:=sc_rule_parts
 refine F.ok sc (fun vs H Q E h=>?_) (fun cdv A outer s H vs Q E hr h=>?_)
 ·obtain ⟨a,C,dx,l,fs,ps,rfl,_⟩:=h;rfl
 ·obtain ⟨a,C,dx,l,fs,ps,rfl,ha,cl,n1,lk,hl,q⟩:=h
  refine ⟨_,(pss_one (ps_ret (pe_callTy call_list_of rfl nb.list bt_list (pa_cons (pe_fld (pv 0) rfl) pa_nil)))),?_⟩
  walk_at "wp"
  refine ⟨C,dx,fs,ha,cl,n1,V.ref l,lk,l,rfl,_,.inl (SqL.of hl),fun l' hl'=>q l' _ hl' upd_same (same_upd hl')⟩
abbrev cellF (n:List Nat) (c:Int) (l:Addr) (sg:List Nat):List (Str × V):=[("name",.str (tx n)),("cost",.int c),("part_names",.ref l),("sign",.str (tx sg))]
abbrev pairF (n:List Nat) (c:Int) (l:Addr) (o1 o2:List Nat):List (Str × V):=[("name",.str (tx n)),("cost",.int c),("part_names",.ref l),("one",.str (tx o1)),("other",.str (tx o2))]
abbrev turnF (n:List Nat) (c:Int) (l:Addr) (o1:List Nat) (t:Int):List (Str × V):=[("name",.str (tx n)),("cost",.int c),("part_names",.ref l),("part",.str (tx o1)),("turning",.int t)]
theorem nameB_len {r:List Nat} (h:nameB r=true):1≤r.length∧r.length≤4:=by
 unfold nameB at h
 rw [Bool.and_eq_true,Bool.and_eq_true,decide_eq_true_eq,decide_eq_true_eq] at h
 exact h.1
theorem signB_len {r:List Nat} (h:signB r=true):r.length=1:=by
 unfold signB at h
 rw [Bool.and_eq_true,decide_eq_true_eq] at h
 exact h.1
theorem seq_cut {a b:TS} {D:Ends} {σ:St} {H:Hp} (h:∀ N:St→Hp→Prop,(∀ σ2 H2,b D σ2 H2→N σ2 H2)→a { D with nx:=N } σ H):tSeq a b D σ H:=h (b D) fun _ _ z=>z
abbrev s_l_whole:Stmt:=top 57
def sp_l_whole:Sp:=fun vs H Q _=>∃ (i:Int),vs=[.int i]∧Q (.bl true) H
theorem sc_l_whole:FnScope ["_law_found"] ["_law_found"] (defScope s_l_whole):=⟨rfl,rfl,rfl,by decide +kernel,rfl,by decide +kernel,by decide +kernel⟩
theorem ok_l_whole {f:Addr} {fd:FuncData} (F:Fun K "_law_whole" "_law_whole" s_l_whole f fd) (nb:NB mg):FnOk P w K mg base CX0 1 f fd ["_law_found"] sp_l_whole:=by
 have sc:=sc_l_whole
 refine F.ok sc (fun vs H Q E h=>?_) (fun cdv A outer s H vs Q E hr h=>?_)
 ·obtain ⟨i,rfl,_⟩:=h;rfl
 ·obtain ⟨i,rfl,q⟩:=h
  refine ⟨_,(pss_one (ps_ret (pe_and (pe_callB call_isinstance rfl nb.isinstance bt_isinstance (pa_cons (pv 0) (pa_cons (pe_bltn (v:=.ty "int") rfl nb.int bt_int rfl) pa_nil))) (pe_one (pe_not (pe_callB call_isinstance rfl nb.isinstance bt_isinstance (pa_cons (pv 0) (pa_cons (pe_bltn (v:=.ty "bool") rfl nb.bool bt_bool rfl) pa_nil)))))))),?_⟩
  walk_at "wp"
  refine ⟨_,TyOf.int i,_,kit_same K _,?_⟩
  walk_at "wp"
  refine ⟨_,TyOf.int i,_,kit_int_bool K,?_⟩
  exact q
structure RV where
 n:List Nat
 c:Int
 o1:List Nat
 o2:List Nat
 sg:List Nat
 t:Int
structure RC where
 rr:Addr
 cc:Addr
 cb:Addr
 ca:Addr
 ct:Addr
def RC.at (R:RC) (k:Nat):Addr:=match k with | 0=>R.cc | 1=>R.cb | 2=>R.ca | _=>R.ct
def fldK (k:Nat) (l:Addr) (v:RV):List (Str × V):=match k with | 0=>cellF v.n v.c l v.sg | 1=>pairF v.n v.c l v.o1 v.o2 | 2=>pairF v.n v.c l v.o1 v.o2 | _=>turnF v.n v.c l v.o1 v.t
def partsK (k:Nat) (v:RV):Pic:=match k with | 0=>[] | 1=>[v.o1,v.o2] | 2=>[v.o1,v.o2] | _=>[v.o1]
def okR (k:Nat) (v:RV):Prop:=match k with | 0=>ruleOk v.n [] v.c∧signB v.sg=true | 1=>ruleOk v.n [v.o1,v.o2] v.c | 2=>ruleOk v.n [v.o1,v.o2] v.c | _=>ruleOk v.n [v.o1] v.c∧0≤v.t∧v.t≤7
structure RV.small (v:RV):Prop where
 n:v.n.length≤1000
 o1:v.o1.length≤1000
 o2:v.o2.length≤1000
 sg:v.sg.length≤1000
structure RV.good (v:RV):Prop where
 n:nameB v.n=true
 c1:1≤v.c
 c9:v.c≤9
 o1:nameB v.o1=true
 o2:nameB v.o2=true
 sg:signB v.sg=true
 t0:0≤v.t
 t7:v.t≤7
theorem RV.good.small {v:RV} (g:v.good):v.small:=⟨by have:=nameB_len g.n;omega,by have:=nameB_len g.o1;omega,by have:=nameB_len g.o2;omega,by have:=signB_len g.sg;omega⟩
theorem RV.good.ok {v:RV} (g:v.good):∀ k,okR k v
 | 0=>⟨⟨fun r hr=>by rw [show r=v.n by simpa using hr];exact g.n,g.c1,g.c9⟩,g.sg⟩
 | 1=>⟨fun r hr=>by rcases (show r=v.n∨r=v.o1∨r=v.o2 by simpa using hr) with rfl | rfl | rfl <;> first | exact g.n | exact g.o1 | exact g.o2,g.c1,g.c9⟩
 | 2=>⟨fun r hr=>by rcases (show r=v.n∨r=v.o1∨r=v.o2 by simpa using hr) with rfl | rfl | rfl <;> first | exact g.n | exact g.o1 | exact g.o2,g.c1,g.c9⟩
 | _ + 3=>⟨⟨fun r hr=>by rcases (show r=v.n∨r=v.o1 by simpa using hr) with rfl | rfl <;> first | exact g.n | exact g.o1,g.c1,g.c9⟩,g.t0,g.t7⟩
def RuleAt (R:RC) (H:Hp) (k:Nat) (a:Addr) (v:RV):Prop:=∃ dx l,H a=some (.ins (R.at k) dx (fldK k l v))∧H l=some (.lst (rowsV (partsK k v)))
theorem RuleAt.up {R:RC} {H H':Hp} {k:Nat} {a:Addr} {v:RV} (r:RuleAt R H k a v) (s:Same H H'):RuleAt R H' k a v:=by
 obtain ⟨dx,l,h1,h2⟩:=r
 exact ⟨dx,l,s _ _ h1,s _ _ h2⟩
structure RKit (K:W.Frag) (R:RC):Prop where
 i0:ICls K R.cc
 i1:ICls K R.cb
 i2:ICls K R.ca
 i3:ICls K R.ct
 a0:NoAttr K R.cc "name"∧NoAttr K R.cc "cost"∧NoAttr K R.cc "part_names"∧NoAttr K R.cc "sign"
 a1:NoAttr K R.cb "name"∧NoAttr K R.cb "cost"∧NoAttr K R.cb "part_names"∧NoAttr K R.cb "one"∧NoAttr K R.cb "other"
 a2:NoAttr K R.ca "name"∧NoAttr K R.ca "cost"∧NoAttr K R.ca "part_names"∧NoAttr K R.ca "one"∧NoAttr K R.ca "other"
 a3:NoAttr K R.ct "name"∧NoAttr K R.ct "cost"∧NoAttr K R.ct "part_names"∧NoAttr K R.ct "part"∧NoAttr K R.ct "turning"
 r0:W.kitOne K (.ref R.cc) (.ref R.rr)=some true
 r1:W.kitOne K (.ref R.cb) (.ref R.rr)=some true
 r2:W.kitOne K (.ref R.ca) (.ref R.rr)=some true
 r3:W.kitOne K (.ref R.ct) (.ref R.rr)=some true
 s0:W.kitOne K (.ref R.cc) (.ref R.cc)=some true
 s1:W.kitOne K (.ref R.cb) (.ref R.cb)=some true
 s2:W.kitOne K (.ref R.ca) (.ref R.ca)=some true
 s3:W.kitOne K (.ref R.ct) (.ref R.ct)=some true
theorem RKit.icls {R:RC} (rk:RKit K R):∀ k,ICls K (R.at k)
 | 0=>rk.i0
 | 1=>rk.i1
 | 2=>rk.i2
 | _ + 3=>rk.i3
theorem RKit.rule {R:RC} (rk:RKit K R):∀ k,W.kitOne K (.ref (R.at k)) (.ref R.rr)=some true
 | 0=>rk.r0
 | 1=>rk.r1
 | 2=>rk.r2
 | _ + 3=>rk.r3
theorem RKit.name {R:RC} (rk:RKit K R):∀ k,NoAttr K (R.at k) "name"∧NoAttr K (R.at k) "cost"∧NoAttr K (R.at k) "part_names"
 | 0=>⟨rk.a0.1,rk.a0.2.1,rk.a0.2.2.1⟩
 | 1=>⟨rk.a1.1,rk.a1.2.1,rk.a1.2.2.1⟩
 | 2=>⟨rk.a2.1,rk.a2.2.1,rk.a2.2.2.1⟩
 | _ + 3=>⟨rk.a3.1,rk.a3.2.1,rk.a3.2.2.1⟩
theorem fldK_lk (l:Addr) (v:RV):∀ k,(fldK k l v).lookup ("name":Str)=some (V.str (tx v.n))∧(fldK k l v).lookup ("cost":Str)=some (V.int v.c)∧(fldK k l v).lookup ("part_names":Str)=some (V.ref l)∧(fldK k l v).lookup ("parts":Str)=none∧(fldK k l v).lookup ("told":Str)=none
 | 0=>⟨rfl,rfl,rfl,rfl,rfl⟩
 | 1=>⟨rfl,rfl,rfl,rfl,rfl⟩
 | 2=>⟨rfl,rfl,rfl,rfl,rfl⟩
 | _ + 3=>⟨rfl,rfl,rfl,rfl,rfl⟩
theorem sameX_new {H1 H2:Hp} {x dx:Addr} {o o':HO} (hx:H1 x=none) (hd:H1 dx=none) (s:SameX x (upd (upd H1 dx o) x o') H2):Same H1 H2:=
 fun b u e=>s b u (ne_of_none e hx) (by rw [upd_ne (ne_of_none e hx),upd_ne (ne_of_none e hd)];exact e)
theorem calP4 {CX:CXT} {k:Nat} {m:Str} {C0 C1 C2 C3:Addr} {s0 s1 s2 s3:Sp} (h0:∃ ps,CalM P w K mg base CX k C0 m ps s0) (h1:∃ ps,CalM P w K mg base CX k C1 m ps s1) (h2:∃ ps,CalM P w K mg base CX k C2 m ps s2) (h3:∃ ps,CalM P w K mg base CX k C3 m ps s3) :
  CalP P w K mg base CX k m [(C0,s0),(C1,s1),(C2,s2),(C3,s3)]:=⟨fun o ho=>by
 simp only [List.mem_cons,List.not_mem_nil,or_false] at ho
 rcases ho with rfl | rfl | rfl | rfl
 ·exact h0
 ·exact h1
 ·exact h2
 ·exact h3⟩
def oParts (K:W.Frag) (R:RC):List (Addr × Sp):=[(R.cc,sp_rule_parts K),(R.cb,sp_rule_parts K),(R.ca,sp_rule_parts K),(R.ct,sp_rule_parts K)]
theorem parts_any {R:RC} {H:Hp} {k a} {v:RV} {Q:VK} {E:XK} (rk:RKit K R) (r:RuleAt R H k a v) (q:GivesPic H (partsK k v) Q) :
  ∃ o∈oParts K R,∃ dx fs,H a=some (.ins o.1 dx fs)∧fs.lookup ("parts":Str)=none∧o.2 [.ref a] H Q E:=by
 obtain ⟨dx,l,h1,h2⟩:=r
 have key:sp_rule_parts K [.ref a] H Q E:=⟨a,R.at k,dx,l,_,_,rfl,h1,(rk.icls k).cl,(rk.name k).2.2,(fldK_lk l v k).2.2.1,h2,q⟩
 have mem:(R.at k,sp_rule_parts K)∈oParts K R:=by
  unfold oParts
  match k with
  | 0=>simp [RC.at]
  | 1=>simp [RC.at]
  | 2=>simp [RC.at]
  | _ + 3=>simp [RC.at]
 exact ⟨_,mem,dx,_,h1,(fldK_lk l v k).2.2.2.1,key⟩
abbrev s_are_signs:Stmt:=top 40
abbrev SMALLS11:Str:="abcdefghijklmnopqrstuvwxyz"
def signsB (r:List Nat):Bool:=decide (1≤r.length) && decide (r.length≤4) && onlyB r SMALLS11 && decide ((met (signsOf (tx r))).length=r.length)
def sp_are_signs:Sp:=fun vs H Q _=>∃ (r:List Nat),vs=[.str (tx r)]∧r.length≤1000∧∀ H',Same H H'→Q (.bl (signsB r)) H'
theorem sc_are_signs:FnScope ["text"] ["text"] (defScope s_are_signs):=⟨rfl,rfl,rfl,by decide +kernel,rfl,by decide +kernel,by decide +kernel⟩
theorem ok_are_signs {f:Addr} {fd:FuncData} {t1 t2:Tok} (F:Fun K "are_signs" "are_signs" s_are_signs f fd) (nb:NB mg) (m_MOST_SIGNS:mg "MOST_SIGNS" = some (.int 4 t1)) (m_SMALLS:mg "SMALLS" = some (.str "abcdefghijklmnopqrstuvwxyz" t2)) (c_only_of:Cal P w K mg base CX0 1 "only_of" ["text","letters"] sp_only_of):FnOk P w K mg base CX0 2 f fd ["text"] sp_are_signs:=by
 have sc:=sc_are_signs
 refine F.ok sc (fun vs H Q E h=>?_) (fun cdv A outer s H vs Q E hr h=>?_)
 ·obtain ⟨r,rfl,_⟩:=h;rfl
 ·obtain ⟨r,rfl,hr',q⟩:=h
  refine ⟨_,(pss_one (ps_ret (pe_and (pe_chain op_le op_le pe_int (pe_callB call_len_str rfl nb.len bt_len (pa_cons (pv 0) pa_nil)) (pe_glob (v:=.int 4) rfl m_MOST_SIGNS ⟨_,rfl⟩)) (pe_and (pe_cal c_only_of (hr.mono (by decide)) rfl pass0 (pa_cons (pv 0) (pa_cons (pe_glob (v:=.str "abcdefghijklmnopqrstuvwxyz") rfl m_SMALLS ⟨_,rfl⟩) pa_nil))) (pe_one (pe_cmpR op_eq (pe_lenset rfl (pv 0) rfl nb.len rfl nb.set) (pe_callB call_len_str rfl nb.len bt_len (pa_cons (pv 0) pa_nil)) (nomark _))))))),?_⟩
  walk_at "wp"
  refine ⟨by rw [tx_length];exact line_le (by omega),?_⟩
  rw [tx_length]
  unfold signsB at q
  by_cases h1:1≤r.length
  ·rw [if_pos (by omega)]
   by_cases h2:r.length≤4
   ·rw [if_pos (by omega)]
    refine ⟨r,_,rfl,by omega,fun H' sm=>⟨_,rfl,?_⟩⟩
    have z:=q H' sm
    rw [decide_eq_true h1,decide_eq_true h2] at z
    cases ho:onlyB r SMALLS11 with
    | false=>
     rw [ho] at z
     rw [if_neg (by simp)]
     exact z
    | true=>
     rw [ho] at z
     rw [if_pos rfl]
     refine ⟨by rw [txs];unfold scanBound;omega,by exact line_le (by omega),?_⟩
     have e:decide (((met (signsOf (tx r))).length:Int)=(r.length:Int))=decide ((met (signsOf (tx r))).length=r.length):=by
      apply decide_eq_decide.mpr
      constructor <;> intro h <;> omega
     rw [e]
     exact z
   ·rw [if_neg (by omega)]
    have z:=q H (fun _ _ e=>e)
    rw [decide_eq_true h1,decide_eq_false h2] at z
    exact z
  ·rw [if_neg (by omega)]
   have z:=q H (fun _ _ e=>e)
   rw [decide_eq_false h1] at z
   exact z
def wyV (y:Str × List Int):List V:=.str y.1 :: y.2.map V.int
theorem rd_ints {H:Hp}:∀ {is:List Int},RdDs K H (is.map Dt.int) (is.map V.int)
 | []=>by rw [List.map_nil,List.map_nil];unfold RdDs;rfl
 | i :: is=>by
  rw [List.map_cons,List.map_cons]
  unfold RdDs
  exact ⟨_,_,rfl,by unfold RdD;rfl,rd_ints⟩
theorem deps_ints:∀ (is:List Int),Dt.deps (is.map Dt.int)=0
 | []=>by rw [List.map_nil];unfold Dt.deps;rfl
 | i :: is=>by
  rw [List.map_cons]
  unfold Dt.deps
  rw [deps_ints is]
  unfold Dt.dep
  rfl
theorem drop_get {α:Type} {l:List α} {i:Nat} {x:α} (h:l[i]?=some x):l.drop i=x :: l.drop (i + 1):=by
 obtain ⟨hi,e⟩:=List.getElem?_eq_some_iff.mp h
 rw [List.drop_eq_getElem_cons hi,e]
def Faulty (C:Addr) (H:Hp) (y:Str × List Int) (E:XK):Prop:=∀ (t d:Addr) (H':Hp),Same H H'→H' t=some (.tup (wyV y))→H' d=some (.xd [("why",.ref t)])→E (.ref C) (some d) H'
theorem Faulty.made {C:Addr} {H H':Hp} {y:Str × List Int} {E:XK} (b:Faulty C H y E) (sm:Same H H') {p d:Addr} (hp:H' p=none) (hd:upd H' p (.tup (wyV y)) d=none):E (.ref C) (some d) (upd (upd H' p (.tup (wyV y))) d (.xd [("why",.ref p)])):=by
 have hdp:p≠d:=fun x=>by rw [← x,upd_same] at hd;cases hd
 exact b p d _ ((sm.trans (same_upd hp)).trans (same_upd hd)) (by rw [upd_ne hdp,upd_same]) upd_same
structure RKit4 (K:W.Frag) (R:RC):Prop where
 kit:∀ i j,i < 4→j < 4→W.kitOne K (.ref (R.at i)) (.ref (R.at j))=some (decide (i=j))
abbrev s_ginit:Stmt:=meth 5 0
theorem sc_ginit:FnScope ["self","why"] ["self","why"] (defScope s_ginit):=⟨rfl,rfl,rfl,by decide +kernel,rfl,by decide +kernel,by decide +kernel⟩
theorem ok_ginit {f C:Addr} {fd:FuncData} (F:Fun K "__init__" "NoGrammar.__init__" s_ginit f fd) (xs:W.XSt K C "why"):FnOk P w K mg base CX0 1 f fd ["self","why"] (sp_init C "why"):=by
 have sc:=sc_ginit
 refine F.ok sc (fun vs H Q E h=>?_) (fun cdv A outer s H vs Q E hr h=>?_)
 ·obtain ⟨a,v,rfl,_⟩:=h;rfl
 ·obtain ⟨a,v,rfl,ha,q⟩:=h
  refine ⟨_,(pss_one (ps_xset (pv 0) (pv 1) rfl)),?_⟩
  walk_at "wp"
  exact ⟨C,ha,xs,fun d hd=>q d hd⟩
abbrev inS (z x:Str):Bool:=!(Builtin.Str.occurrences z x 0 z.length 1).isEmpty
def badSign (sg:Str):List (Nat × RV)→Nat→Option Nat
 | [],_=>none
 | r :: rs,j=>if r.1=0∧inS sg (tx r.2.sg)=false then some j else badSign sg rs (j + 1)
def gFault0 (sg st:List Nat) (rs:List (Nat × RV)):Option (Str × List Int):=
 if signsB sg=false then some ("signs",[]) else if nameB st=false then some ("start",[]) else if 24 < rs.length then some ("rules",[(rs.length:Int)]) else
  match badSign (tx sg) rs 0 with
  | some k=>some ("sign",[(k:Int)])
  | none=>none
abbrev s_check_made_of:Stmt:=top 39
def RulesAt (R:RC) (H:Hp) (as:List Addr) (rs:List (Nat × RV)):Prop:=as.length=rs.length∧∀ (i:Nat) a r,as[i]?=some a→rs[i]?=some r→RuleAt R H r.1 a r.2
theorem RulesAt.up {R:RC} {H H':Hp} {as:List Addr} {rs:List (Nat × RV)} (h:RulesAt R H as rs) (s:Same H H'):RulesAt R H' as rs:=⟨h.1,fun i a r e1 e2=>(h.2 i a r e1 e2).up s⟩
def sp_check_made_of (R:RC) (C:Addr):Sp:=fun vs H Q E=>∃ (sg st:List Nat) (a:Addr) (as:List Addr) (rs:List (Nat × RV)),vs=[.str (tx sg),.str (tx st),.ref a]∧sg.length≤1000∧st.length≤1000∧H a=some (.lst (as.map V.ref))∧RulesAt R H as rs∧(∀ r∈rs,r.1 < 4)∧rs.length≤100 ∧
 (gFault0 sg st rs=none→∀ H',Same H H'→Q .non H')∧∀ y,gFault0 sg st rs=some y→Faulty C H y E
theorem sc_check_made_of:FnScope ["signs","start","rules","k","rule"] ["signs","start","rules"] (defScope s_check_made_of):=⟨rfl,rfl,rfl,by decide +kernel,rfl,by decide +kernel,by decide +kernel⟩
theorem ok_check_made_of {R:RC} {f zaa:Addr} {fd:FuncData} {t1:Tok} (F:Fun K "check_made_of" "check_made_of" s_check_made_of f fd) (nb:NB mg) (rk:RKit K R) (rk4:RKit4 K R) (m_MOST_RULES:mg "MOST_RULES" = some (.int 24 t1)) (zeb:mg "CellRule" = some (.ref R.cc))
  (zpa:mg "NoGrammar" = some (.ref zaa)) (zla:XI P w K mg base 1 zaa "why") (c_are_signs:Cal P w K mg base CX0 2 "are_signs" ["text"] sp_are_signs) (c_is_name:Cal P w K mg base CX0 2 "is_name" ["text"] sp_is_name):FnOk P w K mg base (CX1 P w) 3 f fd ["signs","start","rules"] (sp_check_made_of R zaa):=by
 have sc:=sc_check_made_of
 refine F.okX sc (fun vs H Q E h=>?_) (fun cdv A outer s H vs Q E hr h=>?_)
 ·obtain ⟨sg,st,a,as,rs,rfl,_⟩:=h;rfl
 ·obtain ⟨sg,st,a,as,rs,rfl,hsg,hst,ha,hrs,hk4,hn,good,bad⟩:=h
  refine ⟨_,(pss_cons (ps_if (pt_not (pt_tb (pe_cal (CX:=CX1 P w) c_are_signs.lift (hr.mono (by decide)) rfl passes_E0 (pa_cons (pv 0) pa_nil)) fun _=>rfl))
   (pss_one (ps_raiseI zla (hr.mono (by decide)) rfl rfl zpa (makesI_up fun _ _ _ h=>h) (pa_cons (pe_tup (pa_consS pa_nil)) pa_nil)))
   pss_nil)
   (pss_cons (ps_if (pt_not (pt_tb (pe_cal (CX:=CX1 P w) c_is_name.lift (hr.mono (by decide)) rfl passes_E0 (pa_cons (pv 1) pa_nil)) fun _=>rfl))
   (pss_one (ps_raiseI zla (hr.mono (by decide)) rfl rfl zpa (makesI_up fun _ _ _ h=>h) (pa_cons (pe_tup (pa_consS pa_nil)) pa_nil)))
   pss_nil)
   (pss_cons (ps_if (pt_cmpR op_gt (pe_callB call_lenL rfl nb.len bt_len (pa_cons (pv 2) pa_nil)) (pe_glob (v:=.int 24) rfl m_MOST_RULES ⟨_,rfl⟩) (nomark _))
   (pss_one (ps_raiseI zla (hr.mono (by decide)) rfl rfl zpa (makesI_up fun _ _ _ h=>h) (pa_cons (pe_tup (pa_consS (pa_cons (pe_callB call_lenL rfl nb.len bt_len (pa_cons (pv 2) pa_nil)) pa_nil))) pa_nil)))
   pss_nil)
   (pss_one (ps_forw PassesOwn.leaving rfl (pi_enum rfl nb.enumerate (pa_cons (pv 2) pa_nil)) (pg_tup (n:=2) rfl (pgs_cons (pg_name (i:=3) sc.nd rfl (Or.inl rfl)) (pgs_cons (pg_name (i:=4) sc.nd rfl (Or.inl rfl)) pgs_nil)))
   (pss_one (ps_if (PW.pt (pw_and (pt_tb (pe_callB call_isinstance rfl nb.isinstance bt_isinstance (pa_cons (pv 4) (pa_cons (pe_glob (v:=.ref _) rfl zeb rfl) pa_nil))) fun _=>rfl) (pw_and1 (pt_cmpR op_notin_str (pe_fld (pv 4) rfl) (pv 0) (by with_unfolding_all rfl)))))
   (pss_one (ps_raiseI zla (hr.mono (by decide)) rfl rfl zpa (makesI_up fun _ _ _ h=>h) (pa_cons (pe_tup (pa_consS (pa_cons (pv 3) pa_nil))) pa_nil)))
   pss_nil))))))),?_⟩
  have tupw:∀ (H':Hp) (y:Str × List Int),Same H H'→gFault0 sg st rs=some y→∀ p,H' p=none→1≤sizeLine∧∀ d,upd H' p (.tup (wyV y)) d=none→E (.ref zaa) (some d) (upd (upd H' p (.tup (wyV y))) d (.xd [("why",.ref p)])):=
   fun H' y sm hy p hp=>⟨line_le (by omega),fun d hd=>(bad y hy).made sm hp hd⟩
  refine seq_cut fun N1 h1=>?_
  walk_at "wp"
  refine ⟨sg,rfl,hsg,fun H1 sm1=>⟨_,rfl,?_⟩⟩
  unfold gFault0 at good tupw
  cases e1:signsB sg with
  | false=>
   rw [if_pos rfl]
   rw [if_pos e1] at tupw
   exact ⟨line_le (by omega),tupw H1 _ sm1 rfl⟩
  | true=>
  rw [if_neg (by decide)]
  rw [if_neg (by rw [e1];decide)] at good tupw
  refine h1 _ _ ?_
  clear h1
  refine seq_cut fun N2 h2=>?_
  walk_at "wp"
  refine ⟨st,rfl,by omega,fun H2 sm2=>⟨_,rfl,?_⟩⟩
  have sm12:=sm1.trans sm2
  cases e2:nameB st with
  | false=>
   rw [if_pos rfl]
   rw [if_pos e2] at tupw
   exact ⟨line_le (by omega),tupw H2 _ sm12 rfl⟩
  | true=>
  rw [if_neg (by decide)]
  rw [if_neg (by rw [e2];decide)] at good tupw
  refine h2 _ _ ?_
  clear h2
  have ha2:=sm12 _ _ ha
  have hal:(as.map V.ref).length=rs.length:=by rw [List.length_map];exact hrs.1
  refine seq_cut fun N3 h3=>?_
  walk_at "wp"
  refine ⟨_,SqL.of ha2,?_⟩
  rw [hal]
  by_cases h24:24 < rs.length
  ·rw [if_pos (by omega)]
   rw [if_pos h24] at tupw
   refine ⟨_,SqL.of ha2,line_le (by omega),?_⟩
   rw [hal]
   exact tupw H2 _ sm12 rfl
  rw [if_neg (by omega)]
  rw [if_neg h24] at good tupw
  refine h3 _ _ ?_
  clear h3
  walk_at "wp"
  refine ⟨_,SqL.of ha2,?_⟩
  refine forw_enum (xs:=as.map V.ref) (fun i σ H'=>Same H H'∧badSign (tx sg) (rs.drop i) i=badSign (tx sg) rs 0∧∃ x y,σ=[some (.str (tx sg)),some (.str (tx st)),some (.ref a),x,y]) ⟨sm12,rfl,_,_,rfl⟩ ?_ ?_ ?_
  ·rintro i σ H' _ ⟨sm,_⟩
   exact SqL.of (sm _ _ ha)
  ·rintro i x σ H3 T hx ⟨sm,hb,x1,y1,rfl⟩ hT
   have hlt:i < rs.length:=by have:=(List.getElem?_eq_some_iff.mp hx).1;rw [hal] at this;exact this
   obtain ⟨ra,hra,rfl⟩:∃ ra,as[i]?=some ra∧V.ref ra=x:=by
    rw [List.getElem?_map] at hx
    cases e:as[i]? with
    | none=>rw [e] at hx;cases hx
    | some ra=>rw [e] at hx;exact ⟨ra,rfl,Option.some.inj hx⟩
   have hrr:rs[i]?=some rs[i]:=List.getElem?_eq_getElem hlt
   have hr4:=hk4 _ (List.getElem_mem hlt)
   generalize rs[i]=r at hrr hr4
   rw [drop_get hrr] at hb
   have smT:Same H (upd H3 T (.tup [V.int (i:Int),V.ref ra])):=sm.trans (same_upd hT)
   have eT:upd H3 T (.tup [V.int (i:Int),V.ref ra]) T=some (.tup [V.int (i:Int),V.ref ra]):=upd_same
   generalize upd H3 T (.tup [V.int (i:Int),V.ref ra])=H4 at smT eT ⊢
   have rr:=(hrs.2 i ra r hra hrr).up smT
   obtain ⟨dx,pl,hra4,_⟩:=id rr
   walk_at "wp"
   refine ⟨_,SqT.of eT,rfl,_,_,rfl,_,_,rfl,rfl,?_⟩
   refine ⟨_,(rk.icls r.1).ty hra4,_,rk4.kit r.1 0 hr4 (by decide),?_⟩
   have hb':(if r.1=0∧inS (tx sg) (tx r.2.sg)=false then some i else badSign (tx sg) (rs.drop (i + 1)) (i + 1))=badSign (tx sg) rs 0:=hb
   by_cases e0:r.1=0
   ·rw [if_pos (by simp [e0])]
    obtain ⟨r0,v⟩:=r
    have e0':r0=0:=e0
    subst e0'
    refine ⟨ra,rfl,_,_,_,hra4,rk.i0.cl,rk.a0.2.2.2,_,rfl,_,rfl,?_⟩
    cases hin:inS (tx sg) (tx v.sg) with
    | false=>
     rw [if_pos hin]
     rw [if_pos ⟨rfl,hin⟩] at hb'
     rw [← hb'] at tupw
     exact ⟨line_le (by omega),tupw H4 _ smT rfl⟩
    | true=>
     rw [if_neg (by rw [show (!(Builtin.Str.occurrences (tx sg) (tx v.sg) 0 (tx sg).length 1).isEmpty)=true from hin];decide)]
     rw [if_neg (fun z=>by rw [hin] at z;exact absurd z.2 (by decide))] at hb'
     exact ⟨smT,hb'⟩
   ·rw [if_neg (by simp [e0])]
    rw [if_neg (fun z=>e0 z.1)] at hb'
    exact ⟨smT,hb'⟩
  ·rintro σ H' ⟨sm,hb,x,y,rfl⟩
   walk_at "wp"
   rw [hal,List.drop_of_length_le (Nat.le_refl _)] at hb
   refine good ?_ H' sm
   rw [← hb];rfl
def ntPut (m:List (Str × List Nat)) (z:Str) (i:Nat):List (Str × List Nat):=m.map fun q=>if q.1=z then (q.1,q.2 ++ [i]) else q
structure NumI (H0:Hp) (p:Addr) (t:NT) (H:Hp):Prop where
 same:Same H0 H
 at_:NumsAt H p t
 fresh:∀ x∈t,H0 x.2.1=none
 nodup:((ntM t).map (·.1)).Nodup
theorem ntM_length (t:NT):(ntM t).length=t.length:=by unfold ntM;rw [List.length_map]
theorem ntName_length (m:List (Str × List Nat)) (z:Str):(ntName m z).length≤m.length + 1:=by
 unfold ntName;split
 ·omega
 ·rw [List.length_append];simp
theorem ntPut_keys (m:List (Str × List Nat)) (z:Str) (i:Nat):(ntPut m z i).map (·.1)=m.map (·.1):=by
 unfold ntPut;rw [List.map_map]
 apply List.map_congr_left
 intro q _
 simp only [Function.comp]
 split <;> rfl
theorem ntPut_set {m:List (Str × List Nat)} {j i:Nat} {q:Str × List Nat} (nd:(m.map (·.1)).Nodup) (hj:m[j]?=some q):m.set j (q.1,q.2 ++ [i])=ntPut m q.1 i:=by
 unfold ntPut
 apply List.ext_getElem?
 intro k
 rw [List.getElem?_map,List.getElem?_set]
 have hlt:j < m.length:=(List.getElem?_eq_some_iff.mp hj).1
 by_cases e:j=k
 ·subst e
  rw [if_pos rfl,if_pos hlt,hj]
  simp
 ·rw [if_neg e]
  cases hk:m[k]? with
  | none=>rfl
  | some y=>
   have hne:y.1≠q.1:=by
    intro h
    have h1:(m.map (·.1))[j]?=some q.1:=by rw [List.getElem?_map,hj];rfl
    have h2:(m.map (·.1))[k]?=some q.1:=by rw [List.getElem?_map,hk];simp [h]
    exact e ((List.getElem?_inj (List.getElem?_eq_some_iff.mp h1).1 nd).mp (h1.trans h2.symm))
   simp [hne]
theorem NumI.free {H0 H:Hp} {p:Addr} {t:NT} (N:NumI H0 p t H) {l:Addr} (h:H l=none):H0 l=none:=N.same.free h
theorem setdef_nums {te:TE} {σ:St} {H0 H:Hp} {p:Addr} {t:NT} {z:Str} {i:Nat} {Q:VK} (hp:H0 p=none) (hv:σ[i]?=some (some (.ref p))) (hte:∀ R:VK,R (.str z) H→te σ H R) (N:NumI H0 p t H) (hn:t.length < sizeLine)
  (h:∀ (H':Hp) (t':NT) (j:Nat) (x:Str × Addr × List Nat),NumI H0 p t' H'→t'[j]?=some x→x.1=z→ntM t'=ntName (ntM t) z→t'.length≤t.length + 1→(∀ a o,a≠p→H a=some o→H' a=some o)→Q (.ref x.2.1) H'):tDSetdef (tVar i) te (tLst tNil) σ H Q:=by
 refine ⟨.ref p,hv,p,rfl,.inl ⟨_,.inl N.at_.dict⟩,hte _ ⟨Nat.zero_le _,fun l hl=>?_⟩⟩
 have hl0:=N.free hl
 refine N.at_.setdef hl hn fun H' t' j x N' hj hx hm hy hk=>h H' t' j x ⟨fun b o e=>hk b o (fun q=>by rw [q,hp] at e;exact nomatch e) (N.same b o e),N',fun y hyy=>?_,?_⟩ hj hx hm ?_ hk
 ·rcases hy y hyy with q | q
  ·exact N.fresh y q
  ·rw [q];exact hl0
 ·rw [hm];exact ntName_nodup N.nodup
 ·have:=ntName_length (ntM t) z
  rw [← hm,ntM_length,ntM_length] at this
  exact this
theorem NumI.put {H0 H:Hp} {p:Addr} {t:NT} {j k:Nat} {x:Str × Addr × List Nat} (N:NumI H0 p t H) (hj:t[j]?=some x) :
  NumI H0 p (t.set j (x.1,x.2.1,x.2.2 ++ [k])) (upd H x.2.1 (.lst (ntI (x.2.2 ++ [k]))))∧ntM (t.set j (x.1,x.2.1,x.2.2 ++ [k]))=ntPut (ntM t) x.1 k:=by
 have hm:=List.mem_of_getElem? hj
 have e:ntM (t.set j (x.1,x.2.1,x.2.2 ++ [k]))=ntPut (ntM t) x.1 k:=by
  rw [ntM_set]
  exact ntPut_set (q:=(x.1,x.2.2)) N.nodup (by unfold ntM;rw [List.getElem?_map,hj];rfl)
 refine ⟨⟨same_upd2 N.same (N.fresh x hm),N.at_.put hj,fun y hy=>?_,?_⟩,e⟩
 ·rcases List.mem_or_eq_of_mem_set hy with q | q
  ·exact N.fresh y q
  ·rw [q];exact N.fresh x hm
 ·rw [e,ntPut_keys];exact N.nodup
abbrev s_numbers_by_name:Stmt:=top 41
theorem sc_numbers_by_name:FnScope ["start","rules","numbers","k","rule","part"] ["start","rules"] (defScope s_numbers_by_name):=⟨rfl,rfl,rfl,by decide +kernel,rfl,by decide +kernel,by decide +kernel⟩
def numStep (m:List (Str × List Nat)) (i:Nat) (r:Nat × RV):List (Str × List Nat):=((partsK r.1 r.2).map tx).foldl ntName (ntPut (ntName m (tx r.2.n)) (tx r.2.n) i)
def numsGo:Nat→List (Nat × RV)→List (Str × List Nat)→List (Str × List Nat)
 | _,[],m=>m
 | i,r :: rs,m=>numsGo (i + 1) rs (numStep m i r)
theorem ntName_few {m:List (Str × List Nat)} {z:Str} {n:Nat} (h:∀ q∈m,q.2.length≤n):∀ q∈ntName m z,q.2.length≤n:=by
 unfold ntName;split
 ·exact h
 ·intro q hq
  rcases List.mem_append.mp hq with z1 | z1
  ·exact h q z1
  ·rw [List.mem_singleton.mp z1];exact Nat.zero_le _
theorem ntNames_few:∀ {zs:List Str} {m:List (Str × List Nat)} {n:Nat},(∀ q∈m,q.2.length≤n)→∀ q∈zs.foldl ntName m,q.2.length≤n
 | [],_,_,h=>h
 | z :: zs,_,_,h=>ntNames_few (zs:=zs) (ntName_few h)
theorem numStep_few {m:List (Str × List Nat)} {i n:Nat} {r:Nat × RV} (h:∀ q∈m,q.2.length≤n):∀ q∈numStep m i r,q.2.length≤n + 1:=by
 unfold numStep
 refine ntNames_few fun q hq=>?_
 unfold ntPut at hq
 obtain ⟨q0,hq0,rfl⟩:=List.mem_map.mp hq
 have:=ntName_few h q0 hq0
 split
 ·rw [List.length_append];simp;exact this
 ·omega
theorem numsGo_few:∀ {rs:List (Nat × RV)} {i n:Nat} {m:List (Str × List Nat)},(∀ q∈m,q.2.length≤n)→∀ q∈numsGo i rs m,q.2.length≤n + rs.length
 | [],_,_,_,h=>h
 | r :: rs,i,n,m,h=>fun q hq=>by
  have:=numsGo_few (rs:=rs) (i:=i + 1) (numStep_few (i:=i) (r:=r) h) q hq
  rw [List.length_cons];omega
theorem numsGo_snoc:∀ {rs:List (Nat × RV)} {i:Nat} {m:List (Str × List Nat)} {r:Nat × RV},numsGo i (rs ++ [r]) m=numStep (numsGo i rs m) (i + rs.length) r
 | [],i,m,r=>rfl
 | r0 :: rs,i,m,r=>by
  show numsGo (i + 1) (rs ++ [r]) (numStep m i r0)=numStep (numsGo (i + 1) rs (numStep m i r0)) (i + (rs.length + 1)) r
  rw [numsGo_snoc,show i + 1 + rs.length=i + (rs.length + 1) by omega]
theorem partsK_few (k:Nat) (v:RV):(partsK k v).length≤2:=by
 match k with
 | 0=>simp [partsK]
 | 1=>simp [partsK]
 | 2=>simp [partsK]
 | _ + 3=>simp [partsK]
def numsOf (z:Str) (rs:List (Nat × RV)):List (Str × List Nat):=numsGo 0 rs [(z,[])]
def sp_numbers_by_name (K:W.Frag) (R:RC):Sp:=fun vs H Q _=>∃ (z:Str) (a:Addr) (as:List Addr) (rs:List (Nat × RV)),vs=[.str z,.ref a]∧H a=some (.lst (as.map V.ref))∧RulesAt R H as rs∧rs.length≤100 ∧
 ∀ p H' t,H p=none→NumsAt H' p t→ntM t=numsOf z rs→(∀ x∈t,H x.2.1=none)→Same H H'→Q (.ref p) H'
theorem ok_numbers_by_name {R:RC} {f:Addr} {fd:FuncData} (F:Fun K "numbers_by_name" "numbers_by_name" s_numbers_by_name f fd) (nb:NB mg) (rk:RKit K R) (cp_parts:CalP P w K mg base CX0 1 "parts" (oParts K R)):FnOk P w K mg base CX0 2 f fd ["start","rules"] (sp_numbers_by_name K R):=by
 have sc:=sc_numbers_by_name
 refine F.ok sc (fun vs H Q E h=>?_) (fun cdv A outer s H vs Q E hr h=>?_)
 ·obtain ⟨r,a,_,_,rfl,_⟩:=h;rfl
 ·obtain ⟨z,a,as,rs,rfl,ha,hrs,hn,q⟩:=h
  refine ⟨_,(pss_cons (ps_set (i:=2) sc.nd rfl (Or.inl rfl) (pe_disp (pps_cons (pv 0) (pe_lst pa_nil) pps_nil) rfl rfl (by simp) (by decide)))
   (pss_cons (ps_forw PassesOwn.never rfl (pi_enum rfl nb.enumerate (pa_cons (pv 1) pa_nil)) (pg_tup (n:=2) rfl (pgs_cons (pg_name (i:=3) sc.nd rfl (Or.inl rfl)) (pgs_cons (pg_name (i:=4) sc.nd rfl (Or.inl rfl)) pgs_nil)))
   (pss_cons (ps_expr (pe_bm PySem.F.plainAttrs_list PySem.F.slot_list_append PySem.F.type_list_append mt_append (pe_dsetdef (pv 2) (pe_fld (pv 4) rfl) (pe_lst pa_nil) ⟨rfl,rfl,rfl,rfl⟩) (pa_cons (pv 3) pa_nil)))
   (pss_one (ps_forw PassesOwn.never rfl (pi_list (pe_calP0 cp_parts (hr.mono (by decide)) pass0 (pv 4))) (pg_name (i:=5) sc.nd rfl (Or.inl rfl))
   (pss_one (ps_expr (pe_dsetdef (pv 2) (pv 5) (pe_lst pa_nil) ⟨rfl,rfl,rfl,rfl⟩)))))))
   (pss_one (ps_ret (pv 2))))),?_⟩
  walk_at "wp"
  intro p hp
  refine ⟨Nat.zero_le _,fun l hl=>?_⟩
  have hlp:l≠p:=fun e=>by rw [e,upd_same] at hl;exact nomatch hl
  have hl0:H l=none:=by rw [upd_ne hlp] at hl;exact hl
  have hap:a≠p:=fun e=>by rw [e,hp] at ha;exact nomatch ha
  have hal:a≠l:=fun e=>by rw [e,hl0] at ha;exact nomatch ha
  refine ⟨by rw [upd_ne (Ne.symm hlp),upd_same],[(.inr z,.ref l)],rfl,by simp,as.map V.ref,SqL.of (by rw [upd_ne hap,upd_ne hal,upd_ne hap];exact ha),?_⟩
  refine forw_enum (xs:=as.map V.ref) (fun i σ H'=>Same H H'∧∃ t,NumsAt H' p t∧(∀ x∈t,H x.2.1=none)∧((ntM t).map (·.1)).Nodup∧ntM t=numsGo 0 (rs.take i) [(z,[])]∧t.length≤1 + 3 * i∧∃ x y u,σ=[some (.str z),some (.ref a),some (.ref p),x,y,u]) ?_ ?_ ?_ ?_
  ·refine ⟨fun b o e=>?_,[(z,l,[])],⟨by rw [upd_same];rfl,fun x hx=>?_,by simp⟩,fun x hx=>?_,by simp [ntM],rfl,by simp,_,_,_,rfl⟩
   ·have h1:b≠p:=fun q=>by rw [q,hp] at e;exact nomatch e
    have h2:b≠l:=fun q=>by rw [q,hl0] at e;exact nomatch e
    rw [upd_ne h1,upd_ne h2,upd_ne h1];exact e
   ·rw [List.mem_singleton.mp hx,upd_ne hlp,upd_same];rfl
   ·rw [List.mem_singleton.mp hx];exact hl0
  ·rintro i σ H' _ ⟨sm,_⟩
   exact SqL.of (sm _ _ ha)
  ·rintro i x σ H1 T hx ⟨sm,t,N,fr,nd,em,hlen,x1,y1,u1,rfl⟩ hT
   have hlt:i < rs.length:=by have:=(List.getElem?_eq_some_iff.mp hx).1;rw [List.length_map,hrs.1] at this;exact this
   obtain ⟨ra,hra,rfl⟩:∃ ra,as[i]?=some ra∧V.ref ra=x:=by
    rw [List.getElem?_map] at hx
    cases e:as[i]? with
    | none=>rw [e] at hx;cases hx
    | some ra=>rw [e] at hx;exact ⟨ra,rfl,Option.some.inj hx⟩
   have hrr:rs[i]?=some rs[i]:=List.getElem?_eq_getElem hlt
   generalize rs[i]=r at hrr
   have rr:=hrs.2 i ra r hra hrr
   have smT:Same H (upd H1 T (.tup [V.int (i:Int),V.ref ra])):=sm.trans (same_upd hT)
   have gT:∀ b o,H1 b=some o→upd H1 T (.tup [V.int (i:Int),V.ref ra]) b=some o:=same_upd hT
   have eT:SqT K (upd H1 T (.tup [V.int (i:Int),V.ref ra])) T [V.int (i:Int),V.ref ra]:=SqT.of upd_same
   have N2:=N.grow gT
   generalize upd H1 T (.tup [V.int (i:Int),V.ref ra])=H2 at smT gT eT N2 ⊢
   clear gT N hT sm H1
   simp only [gTup,gCons,gName,gNil]
   refine ⟨_,_,rfl,eT,rfl,_,_,rfl,_,_,rfl,rfl,?_⟩
   refine seq_cut fun N1 h1=>?_
   have rr2:=rr.up smT
   have NI:NumI H p t H2:=⟨smT,N2,fr,nd⟩
   have hz:sizeLine > 1000:=line_big (by decide)
   obtain ⟨dx,pl,hra2,_⟩:=id rr2
   walk_at "wp"
   refine setdef_nums (z:=tx r.2.n) hp rfl (fun S hS=>⟨_,rfl,ra,_,dx,_,_,rfl,hra2,(rk.icls r.1).cl,(rk.name r.1).1,(fldK_lk pl r.2 r.1).1,hS⟩) NI (by omega) fun H3 t3 j x N3 hj hx hm hl3 hk=>?_
   have hxl:=N3.at_.list x (List.mem_of_getElem? hj)
   refine ⟨.inl ⟨rfl,_,SqL.of hxl⟩,_,rfl,_,hxl,?_,h1 _ _ ?_⟩
   ·have h2:(x.1,x.2.2)∈ntName (ntM t) (tx r.2.n):=by rw [← hm];exact List.mem_map.mpr ⟨x,List.mem_of_getElem? hj,rfl⟩
    have h3:=ntName_few (numsGo_few (rs:=rs.take i) (i:=0) (n:=0) (m:=[(z,[])]) (fun q hq=>by rw [List.mem_singleton.mp hq];exact Nat.zero_le _)) (z:=tx r.2.n) (x.1,x.2.2) (by rw [← em];exact h2)
    rw [List.length_take] at h3
    unfold ntI
    rw [List.length_map]
    have h4:x.2.2.length≤100:=by simp at h3;omega
    omega
   clear h1
   obtain ⟨N4,hm4⟩:=N3.put (k:=i) hj
   have hl4:(t3.set j (x.1,x.2.1,x.2.2 ++ [i])).length≤t.length + 1:=by rw [List.length_set];exact hl3
   have hm4:ntM (t3.set j (x.1,x.2.1,x.2.2 ++ [i]))=ntPut (ntName (ntM t) (tx r.2.n)) (tx r.2.n) i:=by rw [hm4,hm,hx]
   have eI:ntI (x.2.2 ++ [i])=ntI x.2.2 ++ [V.int (i:Int)]:=by unfold ntI;rw [List.map_append];rfl
   rw [eI] at N4
   generalize t3.set j (x.1,x.2.1,x.2.2 ++ [i])=t4 at N4 hm4 hl4
   generalize upd H3 x.2.1 (.lst (ntI x.2.2 ++ [V.int (i:Int)]))=H4 at N4 ⊢
   clear hk hxl hj N3 hm hl3 hx NI N2 hra2 rr2
   have rr4:=rr.up N4.same
   have hpk:=partsK_few r.1 r.2
   walk_at "wp"
   refine parts_any rk rr4 fun lp H5 hlp hH5 sm5=>⟨lp,rfl,⟨_,SqL.of hH5⟩,?_⟩
   have hpp:lp≠p:=fun e=>by rw [e,N4.at_.dict] at hlp;exact nomatch hlp
   refine forw_list (xs:=rowsV (partsK r.1 r.2)) (fun n σ H'=>n≤(partsK r.1 r.2).length∧∃ t',NumI H p t' H'∧ntM t'=(((partsK r.1 r.2).take n).map tx).foldl ntName (ntPut (ntName (ntM t) (tx r.2.n)) (tx r.2.n) i)∧t'.length≤t.length + 1 + n∧H' lp=some (.lst (rowsV (partsK r.1 r.2)))∧∃ u,σ=[some (.str z),some (.ref a),some (.ref p),some (.int (i:Int)),some (.ref ra),u])
    ⟨Nat.zero_le _,t4,⟨N4.same.trans sm5,N4.at_.grow sm5,N4.fresh,N4.nodup⟩,hm4,hl4,hH5,_,rfl⟩ ?_ ?_ ?_
   ·rintro n σ H' _ ⟨_,t',_,_,_,hH',_⟩
    exact SqL.of hH'
   ·rintro n v σ H' hv ⟨hn1,t',N',hm',hl',hH',u,rfl⟩
    have hnl:n < (partsK r.1 r.2).length:=by have:=(List.getElem?_eq_some_iff.mp hv).1;rwa [rowsV_length] at this
    rw [rowsV_get hnl] at hv
    cases hv
    walk_at "wp"
    refine setdef_nums (z:=tx (partsK r.1 r.2)[n]) hp rfl (fun S hS=>⟨_,rfl,hS⟩) N' (by omega) fun H6 t6 j x N6 hj hx hm6 hl6 hk=>?_
    refine ⟨hnl,t6,N6,?_,by omega,hk _ _ hpp hH'⟩
    rw [hm6,hm',List.take_add_one,List.getElem?_eq_getElem hnl,List.map_append,List.foldl_append]
    rfl
   ·rintro σ H' ⟨_,t',N',hm',hl',hH',u,rfl⟩
    rw [rowsV_length,List.take_length] at hm'
    refine ⟨N'.same,t',N'.at_,N'.fresh,N'.nodup,?_,?_,_,_,_,rfl⟩
    ·rw [hm',List.take_add_one,hrr,em]
     show _=numsGo 0 (rs.take i ++ [r]) _
     rw [numsGo_snoc,List.length_take,Nat.min_eq_left (Nat.le_of_lt hlt),Nat.zero_add]
     rfl
    ·rw [rowsV_length] at hl';omega
  ·rintro σ H' ⟨sm,t,N,fr,_,em,_,x,y,u,rfl⟩
   walk_at "wp"
   refine q p H' t hp N ?_ fr sm
   rw [em,List.length_map,hrs.1,List.take_length];rfl
def gFault (sg st:List Nat) (rs:List (Nat × RV)):Option (Str × List Int):=
 match gFault0 sg st rs with
 | some y=>some y
 | none=>if 8 < (numsOf (tx st) rs).length then some ("names",[((numsOf (tx st) rs).length:Int)]) else none
def gramFs (sg st:List Nat) (lk pn:Addr):List (Str × V):=[("signs",.str (tx sg)),("start",.str (tx st)),("kept",.ref lk),("numbers",.ref pn)]
def GramF (R:RC) (H:Hp) (C dx a:Addr) (sg st:List Nat) (as:List Addr) (rs:List (Nat × RV)):Prop:=
 ∃ lk pn t,H a=some (.ins C dx (gramFs sg st lk pn))∧H lk=some (.lst (as.map V.ref))∧RulesAt R H as rs∧NumsAt H pn t∧ntM t=numsOf (tx st) rs
def GramAt (R:RC) (H:Hp) (C dx a:Addr) (sg st:List Nat) (as:List Addr) (rs:List (Nat × RV)) (lk pn:Addr) (t:NT):Prop:=
 H a=some (.ins C dx (gramFs sg st lk pn))∧H lk=some (.lst (as.map V.ref))∧RulesAt R H as rs∧NumsAt H pn t∧ntM t=numsOf (tx st) rs
theorem GramAt.f {R:RC} {H:Hp} {C dx a:Addr} {sg st:List Nat} {as:List Addr} {rs:List (Nat × RV)} {lk pn:Addr} {t:NT} (g:GramAt R H C dx a sg st as rs lk pn t):GramF R H C dx a sg st as rs:=⟨lk,pn,t,g⟩
theorem GramAt.up {R:RC} {H H':Hp} {C dx a:Addr} {sg st:List Nat} {as:List Addr} {rs:List (Nat × RV)} {lk pn:Addr} {t:NT} (g:GramAt R H C dx a sg st as rs lk pn t) (s:Same H H'):GramAt R H' C dx a sg st as rs lk pn t:=
 ⟨s _ _ g.1,s _ _ g.2.1,g.2.2.1.up s,g.2.2.2.1.grow s,g.2.2.2.2⟩
theorem GramF.up {R:RC} {H H':Hp} {C dx a:Addr} {sg st:List Nat} {as:List Addr} {rs:List (Nat × RV)} (g:GramF R H C dx a sg st as rs) (s:Same H H'):GramF R H' C dx a sg st as rs:=by
 obtain ⟨lk,pn,t,h1,h2,h3,h4,h5⟩:=g
 exact ⟨lk,pn,t,s _ _ h1,s _ _ h2,h3.up s,h4.grow s,h5⟩
def FaultyX (a C:Addr) (H:Hp) (y:Str × List Int) (E:XK):Prop:=∀ (t d:Addr) (H':Hp),SameX a H H'→H' t=some (.tup (wyV y))→H' d=some (.xd [("why",.ref t)])→E (.ref C) (some d) H'
theorem fldK_ne (k:Nat) (l:Addr) (v:RV):fldK k l v≠[]:=fun e=>by
 have:=(fldK_lk l v k).1
 rw [e] at this
 exact nomatch this
theorem RulesAt.upX {R:RC} {H H':Hp} {a C dx:Addr} {as:List Addr} {rs:List (Nat × RV)} (h:RulesAt R H as rs) (ha:H a=some (.ins C dx [])) (s:SameX a H H'):RulesAt R H' as rs:=by
 refine ⟨h.1,fun i b r e1 e2=>?_⟩
 obtain ⟨d,l,h1,h2⟩:=h.2 i b r e1 e2
 refine ⟨d,l,s _ _ (fun e=>?_) h1,s _ _ (fun e=>?_) h2⟩
 ·rw [e,ha] at h1
  have:=Option.some.inj h1
  exact absurd (HO.ins.inj this).2.2.symm (fldK_ne _ _ _)
 ·rw [e,ha] at h2;cases h2
abbrev s_gram_init:Stmt:=meth 38 0
def sp_gram_init (K:W.Frag) (R:RC) (CF:Addr):Sp:=fun vs H Q E=>∃ (a C dx l:Addr) (sg st:List Nat) (as:List Addr) (rs:List (Nat × RV)),vs=[.ref a,.str (tx sg),.str (tx st),.ref l]∧H a=some (.ins C dx [])∧Cls K C∧(NoAttr K C "signs"∧NoAttr K C "start"∧NoAttr K C "kept"∧NoAttr K C "numbers") ∧
 sg.length≤1000∧st.length≤1000∧H l=some (.lst (as.map V.ref))∧RulesAt R H as rs∧(∀ r∈rs,r.1 < 4)∧rs.length≤100 ∧
 (gFault sg st rs=none→∀ H' lk pn t,SameX a H H'→GramAt R H' C dx a sg st as rs lk pn t→H lk=none→H pn=none→(∀ x∈t,H x.2.1=none)→Q .non H')∧∀ y,gFault sg st rs=some y→FaultyX a CF H y E
theorem sc_gram_init:FnScope ["self","signs","start","rules"] ["self","signs","start","rules"] (defScope s_gram_init):=⟨rfl,rfl,rfl,by decide +kernel,rfl,by decide +kernel,by decide +kernel⟩
theorem ok_gram_init {R:RC} {f zaa:Addr} {fd:FuncData} {t1:Tok} (F:Fun K "__init__" "Grammar.__init__" s_gram_init f fd) (nb:NB mg) (m_MOST_NAMES:mg "MOST_NAMES" = some (.int 8 t1))
  (zpa:mg "NoGrammar" = some (.ref zaa)) (zla:XI P w K mg base 1 zaa "why") (c_check_made_of:Cal P w K mg base (CX1 P w) 3 "check_made_of" ["signs","start","rules"] (sp_check_made_of R zaa)) (c_numbers_by_name:Cal P w K mg base CX0 2 "numbers_by_name" ["start","rules"] (sp_numbers_by_name K R)) :
  FnOk P w K mg base (CX1 P w) 4 f fd ["self","signs","start","rules"] (sp_gram_init K R zaa):=by
 have sc:=sc_gram_init
 refine F.okX sc (fun vs H Q E h=>?_) (fun cdv A outer s H vs Q E hr h=>?_)
 ·obtain ⟨a,C,dx,l,sg,st,as,rs,rfl,_⟩:=h;rfl
 ·obtain ⟨a,C,dx,l,sg,st,as,rs,rfl,ha,cl,⟨n1,n2,n3,n4⟩,hsg,hst,hl,hrs,hk4,hn,good,bad⟩:=h
  refine ⟨_,(pss_cons (ps_expr (pe_cal (E:=E) c_check_made_of (hr.mono (by decide)) rfl (passes_up fun _ _ _ h=>h) (pa_cons (pv 1) (pa_cons (pv 2) (pa_cons (pv 3) pa_nil)))))
   (pss_cons (ps_fld (pv 0) (pv 1) rfl)
   (pss_cons (ps_fld (pv 0) (pv 2) rfl)
   (pss_cons (ps_fld (pv 0) (pe_callTy call_list_of rfl nb.list bt_list (pa_cons (pv 3) pa_nil)) rfl)
   (pss_cons (ps_fld (pv 0) (pe_cal (CX:=CX1 P w) c_numbers_by_name.lift (hr.mono (by decide)) rfl passes_E0 (pa_cons (pv 2) (pa_cons (pv 3) pa_nil))) rfl)
   (pss_one (ps_if (pt_cmpR op_gt (pe_callB call_lenD rfl nb.len bt_len (pa_cons (pe_fld (pv 0) rfl) pa_nil)) (pe_glob (v:=.int 8) rfl m_MOST_NAMES ⟨_,rfl⟩) (nomark _))
   (pss_one (ps_raiseI zla (hr.mono (by decide)) rfl rfl zpa (makesI_up fun _ _ _ h=>h) (pa_cons (pe_tup (pa_consS (pa_cons (pe_callB call_lenD rfl nb.len bt_len (pa_cons (pe_fld (pv 0) rfl) pa_nil)) pa_nil))) pa_nil)))
   pss_nil))))))),?_⟩
  refine seq_cut fun N1 h1=>?_
  walk_at "wp"
  refine ⟨sg,st,l,as,rs,rfl,hsg,hst,hl,hrs,hk4,hn,fun g0 H1 sm1=>h1 _ _ ?_,fun y hy t d H' sm ht hd=>bad y (by unfold gFault;rw [hy]) t d H' (.of sm) ht hd⟩
  clear h1
  have ha1:=sm1 _ _ ha
  have hla:l≠a:=fun e=>by rw [e,ha] at hl;cases hl
  refine seq_cut fun N2 h2=>?_
  walk_at "wp"
  refine ⟨C,dx,_,ha1,cl,n1,by simp,h2 _ _ ?_⟩
  clear h2
  have sx2:SameX a H (upd H1 a (.ins C dx [("signs",.str (tx sg))])):=(SameX.of sm1).put
  have ea2:upd H1 a (.ins C dx [("signs",.str (tx sg))]) a=some (.ins C dx [("signs",.str (tx sg))]):=upd_same
  show _
  change tSeq _ _ _ _ (upd H1 a (.ins C dx [("signs",.str (tx sg))]))
  generalize upd H1 a (.ins C dx [("signs",.str (tx sg))])=H2 at sx2 ea2 ⊢
  clear sm1 ha1
  refine seq_cut fun N3 h3=>?_
  walk_at "wp"
  have d1:¬ (("signs":Str) = "start"):=by decide +kernel
  have e3:putF "start" (V.str (tx st)) [(("signs":Str),V.str (tx sg))]=[(("signs":Str),V.str (tx sg)),(("start":Str),V.str (tx st))]:=by simp only [putF,if_neg d1]
  refine ⟨C,dx,_,ea2,cl,n2,by simp,?_⟩
  rw [e3]
  refine h3 _ _ ?_
  clear h3
  have sx3:SameX a H (upd H2 a (.ins C dx [(("signs":Str),V.str (tx sg)),(("start":Str),V.str (tx st))])):=sx2.put
  have ea3:upd H2 a (.ins C dx [(("signs":Str),V.str (tx sg)),(("start":Str),V.str (tx st))]) a=some (.ins C dx [(("signs":Str),V.str (tx sg)),(("start":Str),V.str (tx st))]):=upd_same
  generalize upd H2 a (.ins C dx [(("signs":Str),V.str (tx sg)),(("start":Str),V.str (tx st))])=H3 at sx3 ea3 ⊢
  clear sx2 ea2
  have hl3:=sx3 _ _ hla hl
  refine seq_cut fun N4 h4=>?_
  walk_at "wp"
  refine ⟨_,.inl (SqL.of hl3),fun lk hlk=>?_⟩
  have hka:lk≠a:=fun e=>by rw [e,ea3] at hlk;cases hlk
  have hlk0:lk≠l:=fun e=>by rw [e,hl3] at hlk;cases hlk
  have sk:Same H3 (upd H3 lk (.lst (as.map V.ref))):=same_upd hlk
  have ek:upd H3 lk (.lst (as.map V.ref)) lk=some (.lst (as.map V.ref)):=upd_same
  have fr1:H lk=none:=by
   cases e:H lk with
   | none=>rfl
   | some u=>rw [sx3 _ _ hka e] at hlk;cases hlk
  generalize upd H3 lk (.lst (as.map V.ref))=H4 at sk ek ⊢
  have d2:¬ (("signs":Str) = "kept"):=by decide +kernel
  have d3:¬ (("start":Str) = "kept"):=by decide +kernel
  have e4:putF "kept" (V.ref lk) [(("signs":Str),V.str (tx sg)),(("start":Str),V.str (tx st))]=[(("signs":Str),V.str (tx sg)),(("start":Str),V.str (tx st)),(("kept":Str),V.ref lk)]:=by simp only [putF,if_neg d2,if_neg d3]
  refine ⟨C,dx,_,sk _ _ ea3,cl,n3,by simp,?_⟩
  rw [e4]
  refine h4 _ _ ?_
  clear h4
  have sx5:SameX a H (upd H4 a (.ins C dx [(("signs":Str),V.str (tx sg)),(("start":Str),V.str (tx st)),(("kept":Str),V.ref lk)])):=(sx3.then sk).put
  have ea5:upd H4 a (.ins C dx [(("signs":Str),V.str (tx sg)),(("start":Str),V.str (tx st)),(("kept":Str),V.ref lk)]) a=some (.ins C dx [(("signs":Str),V.str (tx sg)),(("start":Str),V.str (tx st)),(("kept":Str),V.ref lk)]):=upd_same
  have ek5:upd H4 a (.ins C dx [(("signs":Str),V.str (tx sg)),(("start":Str),V.str (tx st)),(("kept":Str),V.ref lk)]) lk=some (.lst (as.map V.ref)):=by rw [upd_ne hka];exact ek
  generalize upd H4 a (.ins C dx [(("signs":Str),V.str (tx sg)),(("start":Str),V.str (tx st)),(("kept":Str),V.ref lk)])=H5 at sx5 ea5 ek5 ⊢
  refine seq_cut fun N5 h5=>?_
  walk_at "wp"
  refine ⟨tx st,l,as,rs,rfl,sx5 _ _ hla hl,hrs.upX ha sx5,hn,fun pn H6 t hpn hN hm hfr sm6=>?_⟩
  have hpa:pn≠a:=fun e=>by rw [e,ea5] at hpn;cases hpn
  have hpk:pn≠lk:=fun e=>by rw [e,ek5] at hpn;cases hpn
  have fr2:H pn=none:=by
   cases e:H pn with
   | none=>rfl
   | some u=>rw [sx5 _ _ hpa e] at hpn;cases hpn
  have fr3:∀ x∈t,H x.2.1=none:=fun x hx=>by
   have h5x:=hfr x hx
   cases e:H x.2.1 with
   | none=>rfl
   | some u=>rw [sx5 _ _ (fun z=>by rw [z,ea5] at h5x;cases h5x) e] at h5x;cases h5x
  have d4:¬ (("signs":Str) = "numbers"):=by decide +kernel
  have d5:¬ (("start":Str) = "numbers"):=by decide +kernel
  have d6:¬ (("kept":Str) = "numbers"):=by decide +kernel
  have e6:putF "numbers" (V.ref pn) [(("signs":Str),V.str (tx sg)),(("start":Str),V.str (tx st)),(("kept":Str),V.ref lk)]=gramFs sg st lk pn:=by unfold gramFs;simp only [putF,if_neg d4,if_neg d5,if_neg d6]
  have ea6:=sm6 _ _ ea5
  refine ⟨C,dx,_,ea6,cl,n4,by simp,?_⟩
  rw [e6]
  refine h5 _ _ ?_
  clear h5
  have sx7:SameX a H (upd H6 a (.ins C dx (gramFs sg st lk pn))):=(sx5.then sm6).put
  have gf:GramAt R (upd H6 a (.ins C dx (gramFs sg st lk pn))) C dx a sg st as rs lk pn t:=by
   refine ⟨upd_same,by rw [upd_ne hka];exact sm6 _ _ ek5,hrs.upX ha sx7,⟨by rw [upd_ne hpa];exact hN.dict,fun x hx=>?_,hN.apart⟩,hm⟩
   have hq:=hN.list x hx
   rw [upd_ne (fun e=>by rw [e,ea6] at hq;cases hq)]
   exact hq
  have ea7:upd H6 a (.ins C dx (gramFs sg st lk pn)) a=some (.ins C dx (gramFs sg st lk pn)):=upd_same
  have ed7:upd H6 a (.ins C dx (gramFs sg st lk pn)) pn=some (.dK (ntK t)):=by rw [upd_ne hpa];exact hN.dict
  generalize upd H6 a (.ins C dx (gramFs sg st lk pn))=H7 at sx7 gf ea7 ed7 ⊢
  have hlen:(ntK t).length=(numsOf (tx st) rs).length:=by rw [← hm];unfold ntK ntM;rw [List.length_map,List.length_map]
  walk_at "wp"
  refine ⟨C,dx,_,ea7,cl,n4,_,rfl,pn,rfl,_,ed7,?_⟩
  rw [hlen]
  by_cases h8:8 < (numsOf (tx st) rs).length
  ·rw [if_pos (by omega)]
   refine ⟨C,dx,_,ea7,cl,n4,_,rfl,pn,rfl,_,ed7,line_le (by omega),fun p hp=>⟨line_le (by omega),fun d hd=>?_⟩⟩
   rw [hlen] at hd ⊢
   have hdp:p≠d:=fun x=>by rw [← x,upd_same] at hd;cases hd
   refine bad ("names",[((numsOf (tx st) rs).length:Int)]) (by unfold gFault;rw [g0];simp only [];rw [if_pos h8]) p d _ (((sx7.then (same_upd hp))).then (same_upd hd)) (by rw [upd_ne hdp,upd_same];rfl) upd_same
  ·rw [if_neg (by omega)]
   exact good (by unfold gFault;rw [g0];simp only [];rw [if_neg h8]) H7 lk pn t sx7 gf fr1 fr2 fr3
abbrev s_gram_rule:Stmt:=meth 38 2
def sp_gram_rule (R:RC) (C:Addr):Sp:=fun vs H Q _=>∃ (a dx:Addr) (sg st:List Nat) (as:List Addr) (rs:List (Nat × RV)) (k:Nat) (b:Addr),vs=[.ref a,.int (k:Int)]∧GramF R H C dx a sg st as rs∧as[k]?=some b∧Q (.ref b) H
theorem sc_gram_rule:FnScope ["self","k"] ["self","k"] (defScope s_gram_rule):=⟨rfl,rfl,rfl,by decide +kernel,rfl,by decide +kernel,by decide +kernel⟩
theorem ok_gram_rule {R:RC} {f C:Addr} {fd:FuncData} (F:Fun K "rule" "Grammar.rule" s_gram_rule f fd) (nb:NB mg) (cl:Cls K C) (na:NoAttr K C "signs"∧NoAttr K C "start"∧NoAttr K C "kept"∧NoAttr K C "numbers"):FnOk P w K mg base CX0 1 f fd ["self","k"] (sp_gram_rule R C):=by
 have sc:=sc_gram_rule
 refine F.ok sc (fun vs H Q E h=>?_) (fun cdv A outer s H vs Q E hr h=>?_)
 ·obtain ⟨a,dx,sg,st,as,rs,k,b,rfl,_⟩:=h;rfl
 ·obtain ⟨a,dx,sg,st,as,rs,k,b,rfl,g,hb,q⟩:=h
  obtain ⟨lk,pn,t,ha,hk,hrs,hN,hm⟩:=id g
  have hu:=hr.units
  refine ⟨_,(pss_one (ps_ret (pe_ix ix_list (pe_fld (pv 0) rfl) (pv 1) (fun _ _=>rfl)))),?_⟩
  walk_at "wp"
  exact ⟨C,dx,_,ha,cl,na.2.2.1,_,rfl,lk,rfl,_,SqL.of hk,_,atI_nat (by rw [List.getElem?_map,hb];rfl),q⟩
abbrev s_gram_many:Stmt:=meth 38 3
def sp_gram_many (R:RC) (C:Addr):Sp:=fun vs H Q _=>∃ (a dx:Addr) (sg st:List Nat) (as:List Addr) (rs:List (Nat × RV)),vs=[.ref a]∧GramF R H C dx a sg st as rs∧Q (.int (rs.length:Int)) H
theorem sc_gram_many:FnScope ["self"] ["self"] (defScope s_gram_many):=⟨rfl,rfl,rfl,by decide +kernel,rfl,by decide +kernel,by decide +kernel⟩
theorem ok_gram_many {R:RC} {f C:Addr} {fd:FuncData} (F:Fun K "many" "Grammar.many" s_gram_many f fd) (nb:NB mg) (cl:Cls K C) (na:NoAttr K C "signs"∧NoAttr K C "start"∧NoAttr K C "kept"∧NoAttr K C "numbers"):FnOk P w K mg base CX0 1 f fd ["self"] (sp_gram_many R C):=by
 have sc:=sc_gram_many
 refine F.ok sc (fun vs H Q E h=>?_) (fun cdv A outer s H vs Q E hr h=>?_)
 ·obtain ⟨a,dx,sg,st,as,rs,rfl,_⟩:=h;rfl
 ·obtain ⟨a,dx,sg,st,as,rs,rfl,g,q⟩:=h
  obtain ⟨lk,pn,t,ha,hk,hrs,hN,hm⟩:=id g
  have hu:=hr.units
  refine ⟨_,(pss_one (ps_ret (pe_callB call_lenL rfl nb.len bt_len (pa_cons (pe_fld (pv 0) rfl) pa_nil)))),?_⟩
  walk_at "wp"
  refine ⟨C,dx,_,ha,cl,na.2.2.1,_,rfl,lk,rfl,_,SqL.of hk,?_⟩
  rw [List.length_map,hrs.1];exact q
abbrev s_above:Stmt:=top 17
def sp_above (K:W.Frag) (CF:Addr):Sp:=fun vs H Q E=>∃ (a b:Addr) (p q:Pic) (r c r' c':Nat),vs=[.ref a,.ref b]∧H a=some (.lst (rowsV p))∧H b=some (.lst (rowsV q))∧rect p r c∧rect q r' c'∧0 < r∧r≤6∧c≤6∧0 < r'∧r'≤6∧c'≤6 ∧
 (c=c'∧r + r'≤6→GivesPic H (p ++ q) Q)∧(¬ (c=c'∧r + r'≤6)→E (.ref CF) none H)
theorem sc_above:FnScope ["one","other"] ["one","other"] (defScope s_above):=⟨rfl,rfl,rfl,by decide +kernel,rfl,by decide +kernel,by decide +kernel⟩
theorem ok_above {f zha:Addr} {fd:FuncData} {tk:Tok} (F:Fun K "above" "above" s_above f fd) (nb:NB mg) (m_MOST:mg "MOST" = some (.int 6 tk)) (zfb:mg "NoFit" = some (.ref zha)) (zSa:XR K zha):FnOk P w K mg base (CX1 P w) 1 f fd ["one","other"] (sp_above K zha):=by
 have sc:=sc_above
 refine F.okX sc (fun vs H Q E h=>?_) (fun cdv A outer s H vs Q E hr h=>?_)
 ·obtain ⟨a,b,p,q,r,c,r',c',rfl,_⟩:=h;rfl
 ·obtain ⟨a,b,p,q,r,c,r',c',rfl,ha,hb,hp,hq,hr0,hr1,hc1,hr0',hr1',hc1',fit,nofit⟩:=h
  refine ⟨_,(pss_cons (ps_if (PW.pt (pw_or (pt_cmpR op_ne (pe_callB call_len_str rfl nb.len bt_len (pa_cons (pe_ix ix_list (pv 0) pe_int (fun _ _=>rfl)) pa_nil)) (pe_callB call_len_str rfl nb.len bt_len (pa_cons (pe_ix ix_list (pv 1) pe_int (fun _ _=>rfl)) pa_nil)) (nomark _)) (pw_or1 (pt_cmpR op_gt (pe_op op_add (pe_callB call_lenL rfl nb.len bt_len (pa_cons (pv 0) pa_nil)) (pe_callB call_lenL rfl nb.len bt_len (pa_cons (pv 1) pa_nil))) (pe_glob (v:=.int 6) rfl m_MOST ⟨_,rfl⟩) (nomark _)))))
   (pss_one (ps_raiseX zSa rfl rfl zfb (makes_up fun _ _ _ h=>h) (pa_consS pa_nil)))
   pss_nil)
   (pss_one (ps_ret (pe_op op_cat (pv 0) (pv 1))))),?_⟩
  walk_at "wp"
  obtain ⟨hl0,hc0⟩:=rows_row hp hr0
  obtain ⟨hl0',hc0'⟩:=rows_row hq hr0'
  refine ⟨_,SqL.of ha,_,atI_nat (rowsV_get hl0),_,rfl,by rw [tx_length];exact line_le (by omega),_,SqL.of hb,_,atI_nat (rowsV_get hl0'),_,rfl,by rw [tx_length];exact line_le (by omega),?_⟩
  rw [tx_length,tx_length,hc0,hc0']
  by_cases h1:(c:Int)=(c':Int)
  ·rw [if_neg (fun h=>h h1)]
   refine ⟨_,SqL.of ha,_,SqL.of hb,?_⟩
   rw [rowsV_length,rowsV_length,hp.1,hq.1]
   by_cases h2:6 < (r:Int) + (r':Int)
   ·rw [if_pos h2]
    exact ⟨line_le (by omega),nofit (by omega)⟩
   ·rw [if_neg h2]
    refine ⟨_,ha,_,hb,by rw [rowsV_length,rowsV_length,hp.1,hq.1];exact line_le (by omega),fun l hl=>?_⟩
    refine fit ⟨by omega,by omega⟩ l _ hl ?_ (same_upd hl)
    rw [upd_same]
    unfold rowsV
    rw [List.map_append]
  ·rw [if_pos h1]
   exact ⟨line_le (by omega),nofit (by omega)⟩
abbrev s_beside:Stmt:=top 16
def put2 (p q:Pic):Pic:=(p.zip q).map fun x=>x.1 ++ x.2
def sp_beside (K:W.Frag) (CF:Addr):Sp:=fun vs H Q E=>∃ (a b:Addr) (p q:Pic) (r c r' c':Nat),vs=[.ref a,.ref b]∧H a=some (.lst (rowsV p))∧H b=some (.lst (rowsV q))∧rect p r c∧rect q r' c'∧0 < r∧r≤6∧c≤6∧0 < r'∧r'≤6∧c'≤6 ∧
 (r=r'∧c + c'≤6→GivesPic H (put2 p q) Q)∧(¬ (r=r'∧c + c'≤6)→E (.ref CF) none H)
theorem sc_beside:FnScope ["one","other"] ["one","other"] (defScope s_beside):=⟨rfl,rfl,rfl,by decide +kernel,rfl,by decide +kernel,by decide +kernel⟩
theorem ok_beside {f zha:Addr} {fd:FuncData} {tk:Tok} (F:Fun K "beside" "beside" s_beside f fd) (nb:NB mg) (m_MOST:mg "MOST" = some (.int 6 tk)) (zfb:mg "NoFit" = some (.ref zha)) (zSa:XR K zha):FnOk P w K mg base (CX1 P w) 1 f fd ["one","other"] (sp_beside K zha):=by
 have sc:=sc_beside
 refine F.okX sc (fun vs H Q E h=>?_) (fun cdv A outer s H vs Q E hr h=>?_)
 ·obtain ⟨a,b,p,q,r,c,r',c',rfl,_⟩:=h;rfl
 ·obtain ⟨a,b,p,q,r,c,r',c',rfl,ha,hb,hp,hq,hr0,hr1,hc1,hr0',hr1',hc1',fit,nofit⟩:=h
  refine ⟨_,(pss_cons (ps_if (PW.pt (pw_or (pt_cmpR op_ne (pe_callB call_lenL rfl nb.len bt_len (pa_cons (pv 0) pa_nil)) (pe_callB call_lenL rfl nb.len bt_len (pa_cons (pv 1) pa_nil)) (nomark _)) (pw_or1 (pt_cmpR op_gt (pe_op op_add (pe_callB call_len_str rfl nb.len bt_len (pa_cons (pe_ix ix_list (pv 0) pe_int (fun _ _=>rfl)) pa_nil)) (pe_callB call_len_str rfl nb.len bt_len (pa_cons (pe_ix ix_list (pv 1) pe_int (fun _ _=>rfl)) pa_nil))) (pe_glob (v:=.int 6) rfl m_MOST ⟨_,rfl⟩) (nomark _)))))
   (pss_one (ps_raiseX zSa rfl rfl zfb (makes_up fun _ _ _ h=>h) (pa_consS pa_nil)))
   pss_nil)
   (pss_one (ps_ret (pe_comp ["first","second"] [] rfl (CompOk.of (by kernel_rfl)) (by kernel_rfl) (pi_zip rfl nb.zip (pa_cons (pv 0) (pa_cons (pv 1) pa_nil)))
    (fun _ _ _ _=>(pg_tupK (K:=K) (n:=2) rfl rfl (pgs_cons (pg_name (i:=0) (by show (["first","second"]:List Str).Nodup;decide +kernel) rfl (Or.inl rfl)) (pgs_cons (pg_name (i:=1) (by show (["first","second"]:List Str).Nodup;decide +kernel) rfl (Or.inl rfl)) pgs_nil)))) (fun _ _ _ _=>pif_nil) (fun _ _ _ _=>(pe_op op_add_str (pv 0) (pv 1))))))),?_⟩
  walk_at "wp"
  obtain ⟨hl0,hc0⟩:=rows_row hp hr0
  obtain ⟨hl0',hc0'⟩:=rows_row hq hr0'
  refine ⟨_,SqL.of ha,_,SqL.of hb,?_⟩
  rw [rowsV_length,rowsV_length,hp.1,hq.1]
  by_cases h1:(r:Int)=(r':Int)
  ·rw [if_neg (fun h=>h h1)]
   refine ⟨_,SqL.of ha,_,atI_nat (rowsV_get hl0),_,rfl,by rw [tx_length];exact line_le (by omega),_,SqL.of hb,_,atI_nat (rowsV_get hl0'),_,rfl,by rw [tx_length];exact line_le (by omega),?_⟩
   rw [tx_length,tx_length,hc0,hc0']
   by_cases h2:6 < (c:Int) + (c':Int)
   ·rw [if_pos h2]
    exact ⟨line_le (by omega),nofit (by omega)⟩
   ·rw [if_neg h2]
    refine ⟨_,SqL.of ha,_,SqL.of hb,?_⟩
    have hplen:p.length=r:=hp.1
    have hqlen:q.length=r:=by rw [hq.1];omega
    have hput:(put2 p q).length=r:=by unfold put2;rw [List.length_map,List.length_zip,hplen,hqlen,Nat.min_self]
    refine comp_zip (xs:=rowsV p) (ys:=rowsV q) (n:=r) (by rw [rowsV_length,rowsV_length,hplen,hqlen,Nat.min_self]) (fun i acc σ H'=>Same H H'∧acc=rowsV ((put2 p q).take i)∧i≤r∧∃ y z,σ=[y,z]) ⟨fun _ _ e=>e,rfl,Nat.zero_le _,_,_,rfl⟩ ?_ ?_ ?_ ?_ ?_
    ·rintro i acc σ H' ⟨_,rfl,hi,_⟩
     rw [rowsV_length,List.length_take];exact line_big (by omega)
    ·rintro i acc σ H' ⟨_,_,h,_⟩
     exact h
    ·rintro i acc σ H' ⟨sm,_⟩
     exact ⟨SqL.of (sm _ _ ha),SqL.of (sm _ _ hb)⟩
    ·rintro i x y acc σ H' T hx hy ⟨sm,rfl,_,y1,z1,rfl⟩ hT
     have hi:i < p.length:=by have:=(List.getElem?_eq_some_iff.mp hx).1;rwa [rowsV_length] at this
     have hi':i < q.length:=by omega
     rw [rowsV_get hi] at hx
     rw [rowsV_get hi'] at hy
     cases hx
     cases hy
     have hrow:=hp.2 _ (List.getElem_mem hi)
     have hrow':=hq.2 _ (List.getElem_mem hi')
     walk_at "wp"
     refine ⟨_,SqT.of upd_same,rfl,_,_,rfl,_,_,rfl,rfl,?_⟩
     have e:(put2 p q)[i]?=some (p[i] ++ q[i]):=by
      unfold put2
      simp [List.getElem?_zip_eq_some,hi,hi']
      exact ⟨_,_,⟨rfl,rfl⟩,rfl⟩
     have et:tx p[i] ++ tx q[i]=tx (p[i] ++ q[i]):=by
      show (⟨_ ++ _⟩:Str)=⟨_⟩
      simp [tx]
     refine ⟨_,rfl,_,rfl,by rw [tx_length,tx_length];exact line_le (by omega),sm.trans (same_upd hT),?_,by omega⟩
     rw [et,List.take_add_one,e]
     exact (rowsV_append _ _).symm
    ·rintro acc σ H' ⟨sm,rfl,_⟩ l hl
     refine fit ⟨by omega,by omega⟩ l _ (sm.free hl) ?_ (sm.trans (same_upd hl))
     rw [upd_same,← hput,List.take_length]
  ·rw [if_pos h1]
   exact ⟨line_le (by omega),nofit (by omega)⟩
abbrev s_mirror:Stmt:=top 20
def sp_mirror (K:W.Frag):Sp:=fun vs H Q _=>∃ (a:Addr) (p:Pic),vs=[.ref a]∧SqL K H a (rowsV p)∧Small p∧GivesPic H (mirror p) Q
theorem sc_mirror:FnScope ["picture"] ["picture"] (defScope s_mirror):=⟨rfl,rfl,rfl,by decide +kernel,rfl,by decide +kernel,by decide +kernel⟩
theorem ok_mirror {f:Addr} {fd:FuncData} (F:Fun K "mirror" "mirror" s_mirror f fd) (nb:NB mg):FnOk P w K mg base CX0 1 f fd ["picture"] (sp_mirror K):=by
 have sc:=sc_mirror
 refine F.ok sc (fun vs H Q E h=>?_) (fun cdv A outer s H vs Q E hr h=>?_)
 ·obtain ⟨a,p,rfl,_⟩:=h;rfl
 ·obtain ⟨a,p,rfl,hS,hp,q⟩:=h
  refine ⟨_,(pss_one (ps_ret (pe_comp ["row"] [] rfl (CompOk.of (by kernel_rfl)) (by kernel_rfl) (pi_list (pv 0))
    (fun _ _ _ _=>(pg_name (i:=0) (by show (["row"]:List Str).Nodup;decide +kernel) rfl (Or.inl rfl))) (fun _ _ _ _=>pif_nil) (fun _ _ _ _=>(pe_joinrev rfl rfl nb.reversed (pa_cons (pv 0) pa_nil)))))),?_⟩
  walk_at "wp"
  refine ⟨⟨_,hS⟩,comp_list (xs:=rowsV p) (fun i acc σ H'=>H'=H∧acc=rowsV (mirror (p.take i))∧i≤p.length∧∃ x,σ=[x]) ⟨rfl,rfl,Nat.zero_le _,_,rfl⟩ ?_ ?_ ?_ ?_ ?_⟩
  ·rintro i acc σ H' ⟨_,rfl,_⟩
   refine line_big ?_
   rw [rowsV_length]
   unfold mirror
   rw [List.length_map,List.length_take]
   have:=hp.1
   omega
  ·rintro i acc σ H' ⟨_,_,h,_⟩
   rw [rowsV_length];exact h
  ·rintro i acc σ H' ⟨rfl,_⟩
   exact hS
  ·rintro i x acc σ H' hx ⟨rfl,rfl,hi,y,rfl⟩
   have hl:i < p.length:=by have:=(List.getElem?_eq_some_iff.mp hx).1;rwa [rowsV_length] at this
   rw [rowsV_get hl] at hx
   cases hx
   have hr:=hp.2 _ (List.getElem_mem hl)
   walk_at "wp"
   refine ⟨by rw [tx_length];omega,by decide,?_,hl⟩
   rw [tx_list,join_ones,List.take_add_one,List.getElem?_eq_getElem hl]
   unfold mirror
   rw [List.map_append]
   exact (rowsV_append _ _).symm
  ·rintro acc σ H' ⟨rfl,rfl,_⟩ l hl
   rw [rowsV_length,List.take_length]
   exact q l _ hl upd_same (same_upd hl)
abbrev s_column_from_below:Stmt:=top 22
def sp_column (K:W.Frag):Sp:=fun vs H Q _=>∃ (a:Addr) (p:Pic) (i:Nat),vs=[.ref a,.int (i:Int)]∧SqL K H a (rowsV p)∧Small p∧(∀ r∈p,i < r.length)∧∀ H',Same H H'→Q (.str (tx (col p i))) H'
theorem sc_column:FnScope ["picture","i"] ["picture","i"] (defScope s_column_from_below):=⟨rfl,rfl,rfl,by decide +kernel,rfl,by decide +kernel,by decide +kernel⟩
theorem ok_column {f:Addr} {fd:FuncData} (F:Fun K "column_from_below" "column_from_below" s_column_from_below f fd) (nb:NB mg):FnOk P w K mg base CX0 1 f fd ["picture","i"] (sp_column K):=by
 have sc:=sc_column
 refine F.ok sc (fun vs H Q E h=>?_) (fun cdv A outer s H vs Q E hr h=>?_)
 ·obtain ⟨a,p,i,rfl,_⟩:=h;rfl
 ·obtain ⟨a,p,i,rfl,hS,hp,hi,q⟩:=h
  refine ⟨_,(pss_one (ps_ret (pe_bm PySem.F.plainAttrs_str PySem.F.slot_str_join PySem.F.type_str_join mt_join pe_str (pa_cons (pe_comp ["row"] [1] rfl (CompOk.of (by kernel_rfl)) (by kernel_rfl) (pi_rev rfl nb.reversed (pa_cons (pv 0) pa_nil))
    (fun _ _ _ _=>(pg_name (i:=0) (by show (["row","i"]:List Str).Nodup;decide +kernel) rfl (Or.inl rfl))) (fun _ _ _ _=>pif_nil) (fun _ _ _ _=>(pe_ix ix_str (pv 0) (pv 1) (fun _ _=>rfl)))) pa_nil)))),?_⟩
  walk_at "wp"
  have hd:∀ n,((p.reverse.take n).map fun r=>V.str ⟨#[r.getD i 0]⟩)=(((p.reverse.take n).map fun r=>r.getD i 0).map fun c=>(⟨#[c]⟩:Str)).map V.str:=fun n=>by rw [List.map_map,List.map_map];rfl
  refine ⟨rfl,_,hS,comp_rev (xs:=rowsV p) (fun n acc σ H'=>H'=H∧acc=((p.reverse.take n).map fun r=>V.str ⟨#[r.getD i 0]⟩)∧n≤p.length∧∃ x,σ=[x,some (.int (i:Int))]) ⟨rfl,rfl,Nat.zero_le _,_,rfl⟩ ?_ ?_ ?_ ?_ ?_⟩
  ·rintro n acc σ H' ⟨_,rfl,_⟩
   refine line_big ?_
   rw [List.length_map,List.length_take]
   have:=hp.1
   rw [List.length_reverse]
   omega
  ·rintro n acc σ H' ⟨_,_,h,_⟩
   rw [rowsV_length];exact h
  ·rintro n acc σ H' ⟨rfl,_⟩
   exact hS
  ·rintro n x acc σ H' hx ⟨rfl,rfl,hn,y,rfl⟩
   have hl:n < p.reverse.length:=by
    have:=(List.getElem?_eq_some_iff.mp hx).1
    rwa [List.length_reverse,rowsV_length,← List.length_reverse (as:=p)] at this
   have hx':(rowsV p.reverse)[n]?=some x:=by unfold rowsV at hx ⊢;rwa [List.map_reverse]
   rw [rowsV_get hl] at hx'
   cases hx'
   have hm:p.reverse[n]∈p:=List.mem_reverse.mp (List.getElem_mem hl)
   have hr:=hp.2 _ hm
   have hri:=hi _ hm
   walk_at "wp"
   have hc:(tx p.reverse[n]).cps.toList[i]?=some (p.reverse[n].getD i 0):=by rw [tx_list,List.getD_eq_getElem?_getD,List.getElem?_eq_getElem hri];rfl
   refine ⟨by rw [tx_length];exact line_le (by omega),_,atI_nat hc,?_,by rw [List.length_reverse] at hl;exact hl⟩
   rw [List.take_add_one,List.getElem?_eq_getElem hl,List.map_append]
   rfl
  ·rintro acc σ H' ⟨rfl,rfl,_⟩ l hl
   rw [rowsV_length,← List.length_reverse (as:=p),List.take_length] at *
   refine ⟨(col p i).map fun c=>(⟨#[c]⟩:Str),.inl (SqL.of ?_),?_,?_⟩
   ·rw [upd_same];unfold col;rw [List.map_map,List.map_map];rfl
   ·rw [List.map_map]
    have e:((fun y:Str=>y.length) ∘ fun c=>(⟨#[c]⟩:Str))=fun _=>1:=by funext c;rfl
    rw [e,List.map_const',List.sum_replicate_nat,List.length_map]
    have e0:(Str.ofString "").length=0:=rfl
    rw [e0]
    have:=hp.1
    unfold col
    rw [List.length_map,List.length_reverse]
    omega
   ·rw [join_ones];exact q _ (same_upd hl)
abbrev s_quarter:Stmt:=top 21
def sp_quarter (K:W.Frag):Sp:=fun vs H Q _=>∃ (a:Addr) (p:Pic) (r c:Nat),vs=[.ref a]∧SqL K H a (rowsV p)∧rect p r c∧0 < r∧r≤64∧c≤64∧GivesPic H (quarter p) Q
theorem sc_quarter:FnScope ["picture"] ["picture"] (defScope s_quarter):=⟨rfl,rfl,rfl,by decide +kernel,rfl,by decide +kernel,by decide +kernel⟩
theorem ok_quarter {f:Addr} {fd:FuncData} (F:Fun K "quarter" "quarter" s_quarter f fd) (nb:NB mg) (c_column_from_below:Cal P w K mg base CX0 1 "column_from_below" ["picture","i"] (sp_column K)):FnOk P w K mg base CX0 2 f fd ["picture"] (sp_quarter K):=by
 have sc:=sc_quarter
 refine F.ok sc (fun vs H Q E h=>?_) (fun cdv A outer s H vs Q E hr h=>?_)
 ·obtain ⟨a,p,r,c,rfl,_⟩:=h;rfl
 ·obtain ⟨a,p,r,c,rfl,hS,hp,hr0,hr1,hc1,q⟩:=h
  refine ⟨_,(pss_one (ps_ret (pe_comp ["i"] [0] rfl (CompOk.of (by kernel_rfl)) (by kernel_rfl) (pi_range1 rfl nb.range (pa_cons (pe_callB call_len_str rfl nb.len bt_len (pa_cons (pe_ix ix_list (pv 0) pe_int (fun _ _=>rfl)) pa_nil)) pa_nil))
    (fun _ _ _ _=>(pg_name (i:=0) (by show (["i","picture"]:List Str).Nodup;decide +kernel) rfl (Or.inl rfl))) (fun _ _ _ _=>pif_nil) (fun _ _ _ _=>(pe_cal c_column_from_below (hr.mono (by decide)) rfl pass0 (pa_cons (pv 1) (pa_cons (pv 0) pa_nil))))))),?_⟩
  walk_at "wp"
  have hl0:0 < p.length:=by rw [hp.1];exact hr0
  have hc0:(p[0]).length=c:=hp.2 _ (List.getElem_mem hl0)
  have hh:(p.headD []).length=c:=rect_head hp hr0
  refine ⟨_,hS,_,atI_nat (rowsV_get hl0),_,rfl,by rw [tx_length];exact line_le (by omega),by rw [tx_length];omega,by rw [tx_length];omega,?_⟩
  rw [tx_length,hc0,Int.toNat_natCast]
  refine comp_range (lo:=0) (n:=c) (fun i acc σ H'=>Same H H'∧acc=rowsV ((List.range i).map (col p))∧i≤c∧∃ x,σ=[x,some (.ref a)]) ⟨Same.refl _,rfl,Nat.zero_le _,_,rfl⟩ ?_ ?_ ?_ ?_
  ·rintro i acc σ H' ⟨_,rfl,_⟩
   refine line_big ?_
   rw [rowsV_length,List.length_map,List.length_range]
   omega
  ·rintro i acc σ H' ⟨_,_,h,_⟩
   exact h
  ·rintro i acc σ H' hi ⟨sm,rfl,_,y,rfl⟩
   walk_at "wp"
   refine ⟨a,p,i,by simp,sm.seq hS,Small.of hp hr1 hc1,fun x hx=>by rw [hp.2 x hx];exact hi,fun H2 sm2=>⟨sm.trans sm2,?_,hi⟩⟩
   rw [List.range_succ,List.map_append]
   exact (rowsV_append _ _).symm
  ·rintro acc σ H' ⟨sm,rfl,_⟩ l hl
   refine q l _ (sm.free hl) ?_ (sm.trans (same_upd hl))
   rw [upd_same]
   unfold quarter
   rw [hh]
abbrev s_turned:Stmt:=top 19
def sp_turned (K:W.Frag):Sp:=fun vs H Q _=>∃ (a:Addr) (p:Pic) (r c t:Nat),vs=[.ref a,.int (t:Int)]∧SqL K H a (rowsV p)∧rect p r c∧0 < r∧0 < c∧r≤64∧c≤64∧t < 8∧GivesPic H (turned p t) Q
theorem sc_turned:FnScope ["picture","t","result","step"] ["picture","t"] (defScope s_turned):=⟨rfl,rfl,rfl,by decide +kernel,rfl,by decide +kernel,by decide +kernel⟩
theorem ok_turned {f:Addr} {fd:FuncData} (F:Fun K "turned" "turned" s_turned f fd) (nb:NB mg) (c_mirror:Cal P w K mg base CX0 1 "mirror" ["picture"] (sp_mirror K)) (c_quarter:Cal P w K mg base CX0 2 "quarter" ["picture"] (sp_quarter K)):FnOk P w K mg base CX0 3 f fd ["picture","t"] (sp_turned K):=by
 have sc:=sc_turned
 refine F.ok sc (fun vs H Q E h=>?_) (fun cdv A outer s H vs Q E hr h=>?_)
 ·obtain ⟨a,p,r,c,t,rfl,_⟩:=h;rfl
 ·obtain ⟨a,p,r,c,t,rfl,hS,hp,hr0,hc0,hr1,hc1,ht,q⟩:=h
  refine ⟨_,(pss_cons (ps_set (i:=2) sc.nd rfl (Or.inl rfl) (pe_callTy call_list_of rfl nb.list bt_list (pa_cons (pv 0) pa_nil)))
   (pss_cons (ps_if (pt_cmpR op_ge (pv 1) pe_int (nomark _))
   (pss_one (ps_set (i:=2) sc.nd rfl (Or.inl rfl) (pe_cal c_mirror (hr.mono (by decide)) rfl pass0 (pa_cons (pv 2) pa_nil))))
   pss_nil)
   (pss_cons (ps_forw PassesOwn.never rfl (pi_range1 rfl nb.range (pa_cons (pe_op op_mod (pv 1) pe_int) pa_nil)) (pg_name (i:=3) sc.nd rfl (Or.inl rfl))
   (pss_one (ps_set (i:=2) sc.nd rfl (Or.inl rfl) (pe_cal c_quarter (hr.mono (by decide)) rfl pass0 (pa_cons (pv 2) pa_nil)))))
   (pss_one (ps_ret (pv 2)))))),?_⟩
  walk_at "wp"
  -- the quarters,from the list at l
  have loop:∀ (l:Addr) (p':Pic) (H1:Hp),H l=none→H1 l=some (.lst (rowsV p'))→Same H H1→rect p' r c→turned p t=quarters (t % 4) p' →
    ∀ (g:TG) (tb:TS) (D:Ends),g=gName 3→tb=tAsg (tCall (sp_quarter K) [] E0 (tCons (tVar 2) tNil)) (gName 2)→(∀ σ' H' v,σ'[2]?=some (some v)→Q v H'→D.nx σ' H')→ForW (Itr 0 ((t:Int) % 4).toNat) g tb D [some (V.ref a),some (V.int t),some (V.ref l),none] H1:=by
   intro l p' H1 hl h1 sm hp' et g tb D hg htb hD
   subst hg htb
   have e4:((t:Int) % 4).toNat=t % 4:=by omega
   rw [e4]
   refine forw_range (fun i σ H2=>∃ (l2:Addr) (x:Option V),σ=[some (V.ref a),some (V.int t),some (V.ref l2),x]∧H l2=none∧H2 l2=some (.lst (rowsV (quarters i p')))∧Same H H2) ⟨l,none,rfl,hl,h1,sm⟩ ?_ ?_
   ·rintro i σ H2 hi ⟨l2,x,rfl,h2,h3,sm2⟩
    walk_at "wp"
    have hq:=rect_quarters i hp' hr0 hc0
    have gp:∀ r' c',rect (quarters i p') r' c'→0 < r'→r'≤64→c'≤64→sp_quarter K [V.ref l2] H2 (fun x_1 H1=>∃ l2,x_1=V.ref l2∧H l2=none∧H1 l2=some (HO.lst (rowsV (quarters (i + 1) p')))∧Same H H1) E0:=fun r' c' h4 h5 h6 h7=>
     ⟨l2,quarters i p',r',c',rfl,SqL.of h3,h4,h5,h6,h7,fun l3 H3 h8 h9 sm3=>⟨l3,rfl,sm2.free h8,by rw [h9,← quarters_add 1 i p'];rfl,sm2.trans sm3⟩⟩
    by_cases hi2:i % 2=0
    ·rw [if_pos hi2,if_pos hi2] at hq
     exact gp r c hq hr0 hr1 hc1
    ·rw [if_neg hi2,if_neg hi2] at hq
     exact gp c r hq hc0 hc1 hr1
   ·rintro σ H2 ⟨l2,x,rfl,h2,h3,sm2⟩
    exact hD _ _ _ rfl (q l2 H2 h2 (by rw [h3,et]) sm2)
  refine ⟨_,.inl hS,fun l hl=>?_⟩
  split
  ·rename_i h4
   refine ⟨l,p,rfl,SqL.of upd_same,Small.of hp hr1 hc1,fun l2 H2 h2 h3 sm2=>⟨by omega,by omega,?_⟩⟩
   refine loop l2 (mirror p) H2 ((same_upd hl).free h2) h3 ((same_upd hl).trans sm2) (rect_mirror hp) (by unfold turned;rw [if_pos (by omega)]) _ _ _ rfl rfl ?_
   intro σ' H' v e hq
   exact ⟨v,e,hq⟩
  ·rename_i h4
   refine ⟨by omega,by omega,?_⟩
   refine loop l p _ hl upd_same (same_upd hl) hp (by unfold turned;rw [if_neg (by omega)]) _ _ _ rfl rfl ?_
   intro σ' H' v e hq
   exact ⟨v,e,hq⟩
abbrev s_cell_made:Stmt:=meth 30 1
def sp_cell_made (C:Addr):Sp:=fun vs H Q _=>∃ (a dx l b:Addr) (n sg:List Nat) (c:Int),vs=[.ref a,.ref b]∧H a=some (.ins C dx (cellF n c l sg))∧GivesPic H [sg] Q
theorem sc_cell_made:FnScope ["self","pictures"] ["self","pictures"] (defScope s_cell_made):=⟨rfl,rfl,rfl,by decide +kernel,rfl,by decide +kernel,by decide +kernel⟩
theorem ok_cell_made {f C:Addr} {fd:FuncData} (F:Fun K "made" "CellRule.made" s_cell_made f fd) (cl:Cls K C) (na:NoAttr K C "sign"):FnOk P w K mg base CX0 1 f fd ["self","pictures"] (sp_cell_made C):=by
 have sc:=sc_cell_made
 refine F.ok sc (fun vs H Q E h=>?_) (fun cdv A outer s H vs Q E hr h=>?_)
 ·obtain ⟨a,dx,l,b,n,sg,c,rfl,_⟩:=h;rfl
 ·obtain ⟨a,dx,l,b,n,sg,c,rfl,ha,q⟩:=h
  refine ⟨_,(pss_one (ps_ret (pe_lst (pa_cons (pe_fld (pv 0) rfl) pa_nil)))),?_⟩
  walk_at "wp"
  exact ⟨C,dx,_,ha,cl,na,_,rfl,line_le (by decide),fun p hp=>q p _ hp upd_same (same_upd hp)⟩
def sp_pair_made (spf:Sp):Sp:=fun vs H Q E=>∃ (a b a1 a2:Addr),vs=[.ref a,.ref b]∧H b=some (.lst [.ref a1,.ref a2])∧spf [.ref a1,.ref a2] H Q E
abbrev s_beside_made:Stmt:=meth 31 1
theorem sc_beside_made:FnScope ["self","pictures"] ["self","pictures"] (defScope s_beside_made):=⟨rfl,rfl,rfl,by decide +kernel,rfl,by decide +kernel,by decide +kernel⟩
theorem ok_beside_made {f zha:Addr} {fd:FuncData} (F:Fun K "made" "BesideRule.made" s_beside_made f fd) (c_beside:Cal P w K mg base (CX1 P w) 1 "beside" ["one","other"] (sp_beside K zha)):FnOk P w K mg base (CX1 P w) 2 f fd ["self","pictures"] (sp_pair_made (sp_beside K zha)):=by
 have sc:=sc_beside_made
 refine F.okX sc (fun vs H Q E h=>?_) (fun cdv A outer s H vs Q E hr h=>?_)
 ·obtain ⟨a,b,a1,a2,rfl,_⟩:=h;rfl
 ·obtain ⟨a,b,a1,a2,rfl,hb,q⟩:=h
  refine ⟨_,(pss_one (ps_ret (pe_cal (E:=E) c_beside (hr.mono (by decide)) rfl (passes_up fun _ _ _ h=>h) (pa_cons (pe_ix ix_list (pv 1) pe_int (fun _ _=>rfl)) (pa_cons (pe_ix ix_list (pv 1) pe_int (fun _ _=>rfl)) pa_nil))))),?_⟩
  walk_at "wp"
  exact ⟨_,SqL.of hb,_,rfl,_,SqL.of hb,_,rfl,q⟩
abbrev s_above_made:Stmt:=meth 32 1
theorem sc_above_made:FnScope ["self","pictures"] ["self","pictures"] (defScope s_above_made):=⟨rfl,rfl,rfl,by decide +kernel,rfl,by decide +kernel,by decide +kernel⟩
theorem ok_above_made {f zha:Addr} {fd:FuncData} (F:Fun K "made" "AboveRule.made" s_above_made f fd) (c_above:Cal P w K mg base (CX1 P w) 1 "above" ["one","other"] (sp_above K zha)):FnOk P w K mg base (CX1 P w) 2 f fd ["self","pictures"] (sp_pair_made (sp_above K zha)):=by
 have sc:=sc_above_made
 refine F.okX sc (fun vs H Q E h=>?_) (fun cdv A outer s H vs Q E hr h=>?_)
 ·obtain ⟨a,b,a1,a2,rfl,_⟩:=h;rfl
 ·obtain ⟨a,b,a1,a2,rfl,hb,q⟩:=h
  refine ⟨_,(pss_one (ps_ret (pe_cal (E:=E) c_above (hr.mono (by decide)) rfl (passes_up fun _ _ _ h=>h) (pa_cons (pe_ix ix_list (pv 1) pe_int (fun _ _=>rfl)) (pa_cons (pe_ix ix_list (pv 1) pe_int (fun _ _=>rfl)) pa_nil))))),?_⟩
  walk_at "wp"
  exact ⟨_,SqL.of hb,_,rfl,_,SqL.of hb,_,rfl,q⟩
def sp_turn_made (K:W.Frag) (C:Addr):Sp:=fun vs H Q E=>∃ (a dx l b a1:Addr) (n o1:List Nat) (c t:Int),vs=[.ref a,.ref b]∧H a=some (.ins C dx (turnF n c l o1 t))∧H b=some (.lst [.ref a1])∧sp_turned K [.ref a1,.int t] H Q E0
abbrev s_turn_made:Stmt:=meth 33 1
theorem sc_turn_made:FnScope ["self","pictures"] ["self","pictures"] (defScope s_turn_made):=⟨rfl,rfl,rfl,by decide +kernel,rfl,by decide +kernel,by decide +kernel⟩
theorem ok_turn_made {f C:Addr} {fd:FuncData} (F:Fun K "made" "TurnRule.made" s_turn_made f fd) (cl:Cls K C) (na:NoAttr K C "turning") (znd:Cal P w K mg base CX0 3 "turned" ["picture","t"] (sp_turned K)):FnOk P w K mg base CX0 4 f fd ["self","pictures"] (sp_turn_made K C):=by
 have sc:=sc_turn_made
 refine F.ok sc (fun vs H Q E h=>?_) (fun cdv A outer s H vs Q E hr h=>?_)
 ·obtain ⟨a,dx,l,b,a1,n,o1,c,t,rfl,_⟩:=h;rfl
 ·obtain ⟨a,dx,l,b,a1,n,o1,c,t,rfl,ha,hb,q⟩:=h
  refine ⟨_,(pss_one (ps_ret (pe_cal znd (hr.mono (by decide)) rfl pass0 (pa_cons (pe_ix ix_list (pv 1) pe_int (fun _ _=>rfl)) (pa_cons (pe_fld (pv 0) rfl) pa_nil))))),?_⟩
  walk_at "wp"
  exact ⟨_,SqL.of hb,_,rfl,C,dx,_,ha,cl,na,_,rfl,q⟩
structure Pic6 (p:Pic) (r c:Nat):Prop where
 rc:rect p r c
 r0:0 < r
 r6:r≤6
 c0:0 < c
 c6:c≤6
inductive Fits:Nat→List Pic→Prop
 | cell:Fits 0 []
 | beside {p q:Pic} {r c r' c':Nat}:Pic6 p r c→Pic6 q r' c'→Fits 1 [p,q]
 | above {p q:Pic} {r c r' c':Nat}:Pic6 p r c→Pic6 q r' c'→Fits 2 [p,q]
 | turn {p:Pic} {r c:Nat}:Pic6 p r c→Fits 3 [p]
def PicsAt (H:Hp) (l:Addr) (as:List Addr) (ps:List Pic):Prop:=H l=some (.lst (as.map V.ref))∧as.length=ps.length∧∀ i (h1:i < as.length) (h2:i < ps.length),H as[i]=some (.lst (rowsV ps[i]))
theorem PicsAt.up {H H':Hp} {l:Addr} {as:List Addr} {ps:List Pic} (h:PicsAt H l as ps) (s:Same H H'):PicsAt H' l as ps:=⟨s _ _ h.1,h.2.1,fun i h1 h2=>s _ _ (h.2.2 i h1 h2)⟩
def madeP (k:Nat) (v:RV) (ps:List Pic):Option Pic:=
 match k,ps with
 | 0,_=>some [v.sg]
 | 1,[p,q]=>if p.length=q.length∧(p.headD []).length + (q.headD []).length≤6 then some (put2 p q) else none
 | 2,[p,q]=>if (p.headD []).length=(q.headD []).length∧p.length + q.length≤6 then some (p ++ q) else none
 | _,[p]=>some (turned p v.t.toNat)
 | _,_=>none
def oMade (K:W.Frag) (R:RC) (CF:Addr):List (Addr × Sp):=[(R.cc,sp_cell_made R.cc),(R.cb,sp_pair_made (sp_beside K CF)),(R.ca,sp_pair_made (sp_above K CF)),(R.ct,sp_turn_made K R.ct)]
theorem made_any {R:RC} {CF:Addr} {H:Hp} {k a b} {v:RV} {as:List Addr} {ps:List Pic} {Q:VK} {E:XK} (r:RuleAt R H k a v) (ok:okR k v) (pa:PicsAt H b as ps) (ft:Fits k ps)
  (q:∀ p,madeP k v ps=some p→GivesPic H p Q) (x:madeP k v ps=none→E (.ref CF) none H) :
  ∃ o∈oMade K R CF,∃ dx fs,H a=some (.ins o.1 dx fs)∧fs.lookup ("made":Str)=none∧o.2 [.ref a,.ref b] H Q E:=by
 obtain ⟨dx,l,h1,_⟩:=r
 obtain ⟨hb,hl,hat⟩:=pa
 cases ft with
 | cell=>exact ⟨(R.cc,sp_cell_made R.cc),by simp [oMade],dx,_,h1,rfl,a,dx,l,b,v.n,v.sg,v.c,rfl,h1,q _ rfl⟩
 | @beside p q' r c r' c' hp hq=>
  obtain ⟨a1,a2,rfl⟩:∃ a1 a2,as=[a1,a2]:=by match as,hl with | [a1,a2],_=>exact ⟨a1,a2,rfl⟩
  have e1:=hat 0 (by simp) (by simp)
  have e2:=hat 1 (by simp) (by simp)
  have hh1:=rect_head hp.rc hp.r0
  have hh2:=rect_head hq.rc hq.r0
  have hl1:=hp.rc.1
  have hl2:=hq.rc.1
  refine ⟨(R.cb,sp_pair_made (sp_beside K CF)),by simp [oMade],dx,_,h1,rfl,a,b,a1,a2,rfl,hb,a1,a2,p,q',r,c,r',c',rfl,e1,e2,hp.rc,hq.rc,hp.r0,hp.r6,hp.c6,hq.r0,hq.r6,hq.c6,fun fit=>q _ ?_,fun nofit=>x ?_⟩
  ·show (if _ then _ else _)=_
   rw [if_pos (by rw [hl1,hl2,hh1,hh2];exact fit)]
  ·show (if _ then _ else _)=_
   rw [if_neg (by rw [hl1,hl2,hh1,hh2];exact nofit)]
 | @above p q' r c r' c' hp hq=>
  obtain ⟨a1,a2,rfl⟩:∃ a1 a2,as=[a1,a2]:=by match as,hl with | [a1,a2],_=>exact ⟨a1,a2,rfl⟩
  have e1:=hat 0 (by simp) (by simp)
  have e2:=hat 1 (by simp) (by simp)
  have hh1:=rect_head hp.rc hp.r0
  have hh2:=rect_head hq.rc hq.r0
  have hl1:=hp.rc.1
  have hl2:=hq.rc.1
  refine ⟨(R.ca,sp_pair_made (sp_above K CF)),by simp [oMade],dx,_,h1,rfl,a,b,a1,a2,rfl,hb,a1,a2,p,q',r,c,r',c',rfl,e1,e2,hp.rc,hq.rc,hp.r0,hp.r6,hp.c6,hq.r0,hq.r6,hq.c6,fun fit=>q _ ?_,fun nofit=>x ?_⟩
  ·show (if _ then _ else _)=_
   rw [if_pos (by rw [hl1,hl2,hh1,hh2];exact fit)]
  ·show (if _ then _ else _)=_
   rw [if_neg (by rw [hl1,hl2,hh1,hh2];exact nofit)]
 | @turn p r c hp=>
  obtain ⟨a1,rfl⟩:∃ a1,as=[a1]:=by match as,hl with | [a1],_=>exact ⟨a1,rfl⟩
  have e1:=hat 0 (by simp) (by simp)
  have t0:0≤v.t:=ok.2.1
  have t7:v.t≤7:=ok.2.2
  refine ⟨(R.ct,sp_turn_made K R.ct),by simp [oMade],dx,_,h1,rfl,a,dx,l,b,a1,v.n,v.o1,v.c,v.t,rfl,h1,hb,a1,p,r,c,v.t.toNat,by rw [Int.toNat_of_nonneg t0],SqL.of e1,hp.rc,hp.r0,hp.c0,by have:=hp.r6;omega,by have:=hp.c6;omega,by omega,q _ rfl⟩
abbrev s_l_cell:Stmt:=top 43
def sp_l_cell (K:W.Frag):Sp:=fun vs H Q _=>∃ (a:Addr) (ns:List Int) (k:Nat),vs=[.ref a,.int (k:Int)]∧SqL K H a (ns.map V.int)∧k≤1000∧∀ c:Int,Q (.int c) H
theorem sc_l_cell:FnScope ["_law_script","_law_k","_law_cell_here","_law_mixed"] ["_law_script","_law_k"] (defScope s_l_cell):=⟨rfl,rfl,rfl,by decide +kernel,rfl,by decide +kernel,by decide +kernel⟩
theorem ok_l_cell {f:Addr} {fd:FuncData} (F:Fun K "_law_cell" "_law_cell" s_l_cell f fd) (nb:NB mg):FnOk P w K mg base CX0 1 f fd ["_law_script","_law_k"] (sp_l_cell K):=by
 have sc:=sc_l_cell
 refine F.ok sc (fun vs H Q E h=>?_) (fun cdv A outer s H vs Q E hr h=>?_)
 ·obtain ⟨a,ns,k,rfl,_⟩:=h;rfl
 ·obtain ⟨a,ns,k,rfl,hS,hk,q⟩:=h
  refine ⟨_,(pss_cons (ps_set (i:=2) sc.nd rfl (Or.inl rfl) pe_int)
   (pss_cons (ps_if (pt_cmpR op_lt (pv 1) (pe_callB call_lenL rfl nb.len bt_len (pa_cons (pv 0) pa_nil)) (nomark _))
   (pss_one (ps_set (i:=2) sc.nd rfl (Or.inl rfl) (pe_ix ix_list (pv 0) (pv 1) (fun _ _=>rfl))))
   pss_nil)
   (pss_cons (ps_set (i:=3) sc.nd rfl (Or.inl rfl) (pe_op op_mod (pe_op op_mul (pe_op op_add (pe_op op_add (pe_op op_mod (pv 2) pe_int) (pe_op op_mul pe_int (pv 1))) pe_int) pe_int) pe_int))
   (pss_one (ps_ret (pe_op op_add (pe_op op_mul (pe_op op_fdivP (pv 2) pe_int) pe_int) (pe_op op_mod (pe_op op_add (pe_op op_mul (pv 3) pe_int) (pv 1)) pe_int))))))),?_⟩
  walk_at "wp"
  refine ⟨_,hS,?_⟩
  rw [List.length_map]
  split
  ·rename_i hlt
   have hlt':k < ns.length:=by omega
   refine ⟨_,hS,V.int ns[k],atI_nat (by rw [List.getElem?_map,List.getElem?_eq_getElem hlt'];rfl),?_⟩
   walk_at "wp"
   exact q _
  ·exact q _
def stepN (s:Nat):Nat:=match s with | 0=>1 | 1=>3 | 2=>5 | _=>7
def sigL (d s m:Nat):List Nat:=(List.range (1 + m)).map fun i=>97 + (d + i * stepN s) % 26
theorem sig_all:∀ d,d < 26→∀ s,s < 4→∀ m,m < 4→signsB (sigL d s m)=true:=by decide +kernel
theorem step_at:∀ n,n < 4→([V.int 1,V.int 3,V.int 5,V.int 7]:List V)[n]?=some (V.int (stepN n:Nat))∧stepN n≤7
 | 0,_=>⟨rfl,by decide⟩
 | 1,_=>⟨rfl,by decide⟩
 | 2,_=>⟨rfl,by decide⟩
 | 3,_=>⟨rfl,by decide⟩
theorem small_at:∀ n,n < 26→(Str.ofString "abcdefghijklmnopqrstuvwxyz").cps.toList[n]?=some (97 + n):=by decide +kernel
theorem signsB_len {r:List Nat} (h:signsB r=true):1≤r.length∧r.length≤4:=by
 unfold signsB at h
 simp only [Bool.and_eq_true,decide_eq_true_eq] at h
 exact ⟨h.1.1.1,h.1.1.2⟩
abbrev s_l_signs:Stmt:=top 44
def sp_l_signs:Sp:=fun vs H Q _=>∃ (c:Int),vs=[.int c,.int 4]∧∀ (r:List Nat) (H':Hp),signsB r=true→Same H H'→Q (.str (tx r)) H'
theorem sc_l_signs:FnScope ["_law_cell_here","_law_most","_law_letters","_law_step"] ["_law_cell_here","_law_most"] (defScope s_l_signs):=⟨rfl,rfl,rfl,by decide +kernel,rfl,by decide +kernel,by decide +kernel⟩
theorem ok_l_signs {f:Addr} {fd:FuncData} (F:Fun K "_law_signs" "_law_signs" s_l_signs f fd) (nb:NB mg):FnOk P w K mg base CX0 1 f fd ["_law_cell_here","_law_most"] sp_l_signs:=by
 have sc:=sc_l_signs
 refine F.ok sc (fun vs H Q E h=>?_) (fun cdv A outer s H vs Q E hr h=>?_)
 ·obtain ⟨c,rfl,_⟩:=h;rfl
 ·obtain ⟨c,rfl,q⟩:=h
  refine ⟨_,(pss_cons (ps_set (i:=2) sc.nd rfl (Or.inr rfl) pe_str)
   (pss_cons (ps_set (i:=3) sc.nd rfl (Or.inr rfl) (pe_ix ix_tup (pe_tup (pa_consI (pa_consI (pa_consI (pa_consI pa_nil))))) (pe_op op_mod (pe_op op_fdivP (pv 0) (pv 1)) pe_int) (fun _ _=>rfl)))
   (pss_one (ps_ret (pe_bm PySem.F.plainAttrs_str PySem.F.slot_str_join PySem.F.type_str_join mt_join pe_str (pa_cons (pe_comp ["_law_k"] [2,0,1,3] rfl (CompOk.of (by kernel_rfl)) (by kernel_rfl) (pi_range1 rfl nb.range (pa_cons (pe_op op_add pe_int (pe_op op_mod (pv 0) (pv 1))) pa_nil))
    (fun _ _ _ _=>(pg_name (i:=0) (by show (["_law_k","_law_letters","_law_cell_here","_law_most","_law_step"]:List Str).Nodup;decide +kernel) rfl (Or.inl rfl))) (fun _ _ _ _=>pif_nil) (fun _ _ _ _=>(pe_ix ix_str (pv 1) (pe_op op_mod (pe_op op_add (pe_op op_fdivP (pe_op op_fdivP (pv 2) (pv 3)) pe_int) (pe_op op_mul (pv 0) (pv 4))) pe_int) (fun _ _=>rfl)))) pa_nil)))))),?_⟩
  obtain ⟨m,hm⟩:∃ m:Nat,c % 4=(m:Int):=⟨_,(Int.toNat_of_nonneg (Int.emod_nonneg _ (by omega))).symm⟩
  obtain ⟨s4,hs4⟩:∃ m:Nat,c / 4 % 4=(m:Int):=⟨_,(Int.toNat_of_nonneg (Int.emod_nonneg _ (by omega))).symm⟩
  obtain ⟨d,hd⟩:∃ m:Nat,c / 4 / 4 % 26=(m:Int):=⟨_,(Int.toNat_of_nonneg (Int.emod_nonneg _ (by omega))).symm⟩
  have m2:m < 4:=by have:=Int.emod_lt_of_pos c (b:=4) (by omega);omega
  have s2:s4 < 4:=by have:=Int.emod_lt_of_pos (c / 4) (b:=4) (by omega);omega
  have d2:d < 26:=by have:=Int.emod_lt_of_pos (c / 4 / 4) (b:=26) (by omega);omega
  refine seq_cut fun N1 h1=>?_
  walk_at "wp"
  refine h1 _ _ ?_
  clear h1
  refine seq_cut fun N1 h1=>?_
  walk_at "wp"
  obtain ⟨stp,stl⟩:=step_at s4 s2
  refine ⟨line_le (by decide),fun p hp=>⟨_,SqT.of upd_same,_,by rw [hs4];exact atI_nat stp,h1 _ _ ?_⟩⟩
  clear h1
  have s1:Same H (upd H p (.tup [V.int 1,V.int 3,V.int 5,V.int 7])):=same_upd hp
  generalize upd H p (.tup [V.int 1,V.int 3,V.int 5,V.int 7])=H1 at s1 ⊢
  walk_at "wp"
  rw [hm]
  have en:(1 + (m:Int)).toNat=1 + m:=by omega
  rw [en]
  refine ⟨rfl,by omega,by omega,?_⟩
  have chr:∀ i:Nat,(c / 4 / 4 + (i:Int) * ((stepN s4:Nat):Int)) % 26=(((d + i * stepN s4) % 26:Nat):Int):=fun i=>by
   rw [Int.add_emod,hd]
   push_cast
   rw [Int.add_emod (d:Int) ((i:Int) * ((stepN s4:Nat):Int)),Int.emod_eq_of_lt (a:=(d:Int)) (by omega) (by omega)]
  refine comp_rangeF (n:=1 + m) (f:=fun i=>some (V.str ⟨#[97 + (d + i * stepN s4) % 26]⟩)) (fun σ=>∃ x,σ=[x,some (.str "abcdefghijklmnopqrstuvwxyz"),some (.int c),some (.int 4),some (.int ((stepN s4:Nat):Int))]) ⟨_,rfl⟩ (by omega) ?_ ?_
  ·rintro i hi σ H' N1 N0 ⟨y,rfl⟩ sm k1 k0
   walk_at "wp"
   have hb:i * stepN s4≤4 * 7:=Nat.mul_le_mul (by omega) stl
   have h2:(i:Int) * ((stepN s4:Nat):Int)=((i * stepN s4:Nat):Int):=by push_cast;rfl
   refine ⟨by omega,by decide,97 + (d + i * stepN s4) % 26,?_,k1 _ _ _ rfl sm ⟨_,rfl⟩⟩
   rw [chr i]
   exact atI_nat (small_at _ (Nat.mod_lt _ (by omega)))
  ·intro H' sm l hl
   rw [fm_some]
   have e0:(List.range (1 + m)).map (fun i=>V.str ⟨#[97 + (d + i * stepN s4) % 26]⟩)=((sigL d s4 m).map fun c=>(⟨#[c]⟩:Str)).map V.str:=by
    unfold sigL;rw [List.map_map,List.map_map];rfl
   rw [e0]
   have hg:=sig_all d d2 s4 s2 m m2
   have hgl:=signsB_len hg
   refine ⟨_,.inl (SqL.of upd_same),?_,?_⟩
   ·rw [List.map_map]
    have e1:((fun y:Str=>y.length) ∘ fun c=>(⟨#[c]⟩:Str))=fun _=>1:=by funext c;rfl
    have e0:(Str.ofString "").length=0:=rfl
    rw [e1,List.map_const',List.sum_replicate_nat,List.length_map,e0]
    omega
   ·rw [join_ones]
    exact q _ _ hg ((s1.trans sm).trans (same_upd hl))
theorem cap_at:∀ n,n < 26→(Str.ofString "ABCDEFGHIJKLMNOPQRSTUVWXYZ").cps.toList[n]?=some (65 + n):=by decide +kernel
def capB (c:Nat):Bool:=inT CAPS c
theorem cap_in:∀ n,n < 26→capB (65 + n)=true:=by decide +kernel
abbrev s_l_names:Stmt:=top 47
def sp_l_names:Sp:=fun vs H Q _=>∃ (c:Int),vs=[.int c]∧∀ (l:Addr) (p:Pic) (H':Hp),H l=none→H' l=some (.lst (rowsV p))→p.length=4→(∀ r∈p,nameB r=true)→Same H H'→Q (.ref l) H'
theorem sc_l_names:FnScope ["_law_cell_here","_law_letters","_law_rest","_law_word","_law_spot","_law_first","_law_step","_law_names_here","_law_k"] ["_law_cell_here"] (defScope s_l_names):=⟨rfl,rfl,rfl,by decide +kernel,rfl,by decide +kernel,by decide +kernel⟩
theorem ok_l_names {f:Addr} {fd:FuncData} (F:Fun K "_law_names" "_law_names" s_l_names f fd) (nb:NB mg):FnOk P w K mg base CX0 1 f fd ["_law_cell_here"] sp_l_names:=by
 have sc:=sc_l_names
 refine F.ok sc (fun vs H Q E h=>?_) (fun cdv A outer s H vs Q E hr h=>?_)
 ·obtain ⟨c,rfl,_⟩:=h;rfl
 ·obtain ⟨c,rfl,q⟩:=h
  refine ⟨_,(pss_cons (ps_set (i:=1) sc.nd rfl (Or.inr rfl) pe_str)
   (pss_cons (ps_set (i:=2) sc.nd rfl (Or.inr rfl) (pe_op op_fdivP (pv 0) pe_int))
   (pss_cons (ps_setcomp (i:=3) ["_law_k"] [1,2] sc.nd rfl (Or.inl rfl) rfl  rfl (CompOk.of (by kernel_rfl)) (by kernel_rfl) (pi_range1 rfl nb.range (pa_cons (pe_op op_add pe_int (pe_op op_mod (pv 0) pe_int)) pa_nil))
    (fun _ _ _ _=>(pg_name (i:=0) (by show (["_law_k","_law_letters","_law_rest"]:List Str).Nodup;decide +kernel) rfl (Or.inl rfl))) (fun _ _ _ _=>pif_nil) (fun _ _ _ _=>(pe_ix ix_str (pv 1) (pe_op op_mod (pe_op op_fdivP (pv 2) (pe_op op_add pe_int (pe_op op_mul pe_int (pv 0)))) pe_int) (fun _ _=>rfl))))
   (pss_cons (ps_set (i:=4) sc.nd rfl (Or.inl rfl) (pe_op op_mod (pv 2) (pe_callB call_lenL rfl nb.len bt_len (pa_cons (pv 3) pa_nil))))
   (pss_cons (ps_set (i:=5) sc.nd rfl (Or.inl rfl) (pe_bm PySem.F.plainAttrs_str PySem.F.slot_str_find PySem.F.type_str_find mt_find (pv 1) (pa_cons (pe_ix ix_list (pv 3) (pv 4) (fun _ _=>rfl)) pa_nil)))
   (pss_cons (ps_set (i:=6) sc.nd rfl (Or.inl rfl) (pe_op op_mul (pe_op op_add pe_int (pe_op op_mod (pe_op op_fdivP (pv 2) pe_int) pe_int)) (pe_op op_mod (pe_op op_fdivP (pv 0) pe_int) pe_int)))
   (pss_cons (ps_set (i:=7) sc.nd rfl (Or.inl rfl) (pe_lst pa_nil))
   (pss_cons (ps_forw PassesOwn.never rfl (pi_range1 rfl nb.range (pa_consI pa_nil)) (pg_name (i:=8) sc.nd rfl (Or.inl rfl))
   (pss_cons (ps_asg (pe_ix ix_str (pv 1) (pe_op op_mod (pe_op op_add (pv 5) (pe_op op_mul (pv 8) (pv 6))) pe_int) (fun _ _=>rfl)) (pg_sub (pv 3) (pv 4) set_list))
   (pss_one (ps_expr (pe_bm PySem.F.plainAttrs_list PySem.F.slot_list_append PySem.F.type_list_append mt_append (pv 7) (pa_cons (pe_bm PySem.F.plainAttrs_str PySem.F.slot_str_join PySem.F.type_str_join mt_join pe_str (pa_cons (pv 3) pa_nil)) pa_nil))))))
   (pss_one (ps_ret (pv 7))))))))))),?_⟩
  obtain ⟨m,hm⟩:∃ m:Nat,c % 4=(m:Int):=⟨_,(Int.toNat_of_nonneg (Int.emod_nonneg _ (by omega))).symm⟩
  have m2:m < 4:=by have:=Int.emod_lt_of_pos c (b:=4) (by omega);omega
  refine seq_cut fun N1 h1=>?_
  walk_at "wp"
  refine h1 _ _ ?_
  clear h1
  refine seq_cut fun N1 h1=>?_
  walk_at "wp"
  refine h1 _ _ ?_
  clear h1
  refine seq_cut fun N1 h1=>?_
  walk_at "wp"
  rw [hm]
  have en:(1 + (m:Int)).toNat=1 + m:=by omega
  rw [en]
  refine ⟨by omega,by omega,?_⟩
  have up26:∀ x:Int,∃ n:Nat,n < 26∧x % 26=(n:Int):=fun x=>⟨(x % 26).toNat,by have:=Int.emod_lt_of_pos x (b:=26) (by omega);omega,by have:=Int.emod_nonneg x (b:=26) (by omega);omega⟩
  let fc:Nat→Nat:=fun i=>65 + (c / 8 / (1 + 7 * (i:Int)) % 26).toNat
  refine comp_rangeF (n:=1 + m) (f:=fun i=>some (V.str ⟨#[fc i]⟩)) (fun σ=>∃ x,σ=[x,some (.str "ABCDEFGHIJKLMNOPQRSTUVWXYZ"),some (.int (c / 8))]) ⟨_,rfl⟩ (by omega) ?_ ?_
  ·rintro i hi σ H' N1 N0 ⟨y,rfl⟩ sm k1 k0
   walk_at "wp"
   obtain ⟨n,h1,h2⟩:=up26 (c / 8 / (1 + 7 * (i:Int)))
   refine ⟨by omega,by omega,by decide,fc i,?_,k1 _ _ _ rfl sm ⟨_,rfl⟩⟩
   show atI _ _=some (65 + (c / 8 / (1 + 7 * (i:Int)) % 26).toNat)
   rw [h2]
   exact atI_nat (cap_at n h1)
  ·intro H' sm l hl
   rw [fm_some]
   have e0:(List.range (1 + m)).map (fun i=>V.str ⟨#[fc i]⟩)=(((List.range (1 + m)).map fc).map fun c=>V.str ⟨#[c]⟩):=by rw [List.map_map];rfl
   rw [e0]
   have hcs:∀ x∈(List.range (1 + m)).map fc,capB x=true:=fun x hx=>by
    obtain ⟨i,_,rfl⟩:=List.mem_map.mp hx
    obtain ⟨n,h1,h2⟩:=up26 (c / 8 / (1 + 7 * (i:Int)))
    show capB (65 + (c / 8 / (1 + 7 * (i:Int)) % 26).toNat)=true
    rw [h2]
    exact cap_in n h1
   have hcl:((List.range (1 + m)).map fc).length=1 + m:=by simp
   generalize (List.range (1 + m)).map fc=cs at hcs hcl ⊢
   refine h1 _ _ ?_
   clear h1
   have s1:Same H (upd H' l (.lst (cs.map fun c=>V.str ⟨#[c]⟩))):=sm.trans (same_upd hl)
   have e1:upd H' l (.lst (cs.map fun c=>V.str ⟨#[c]⟩)) l=some (.lst (cs.map fun c=>V.str ⟨#[c]⟩)):=upd_same
   generalize upd H' l (.lst (cs.map fun c=>V.str ⟨#[c]⟩))=H1 at s1 e1 ⊢
   have fr:H l=none:=sm.free hl
   refine seq_cut fun N1 h1=>?_
   walk_at "wp"
   have lm:(cs.map fun c=>V.str ⟨#[c]⟩).length=1 + m:=by rw [List.length_map,hcl]
   refine ⟨_,SqL.of e1,by rw [lm];omega,h1 _ _ ?_⟩
   clear h1
   rw [lm]
   obtain ⟨k,hk⟩:∃ k:Nat,c / 8 % ((1 + m:Nat):Int)=(k:Int):=⟨_,(Int.toNat_of_nonneg (Int.emod_nonneg _ (by omega))).symm⟩
   have hk2:k < 1 + m:=by have:=Int.emod_lt_of_pos (c / 8) (b:=((1 + m:Nat):Int)) (by omega);omega
   rw [hk]
   refine seq_cut fun N1 h1=>?_
   walk_at "wp"
   refine ⟨rfl,_,SqL.of e1,V.str ⟨#[cs[k]'(by omega)]⟩,atI_nat (by rw [List.getElem?_map,List.getElem?_eq_getElem (by omega)];rfl),_,rfl,fun fi=>h1 _ _ ?_⟩
   clear h1
   refine seq_cut fun N1 h1=>?_
   walk_at "wp"
   refine ⟨.inr ⟨by omega,by omega⟩,h1 _ _ ?_⟩
   clear h1
   generalize (1 + c / 8 / 5 % 8) * (c / 4 % 2)=st
   refine seq_cut fun N1 h1=>?_
   walk_at "wp"
   refine ⟨line_le (by decide),fun ln hn=>h1 _ _ ?_⟩
   clear h1
   have hnl:l≠ln:=fun e=>by rw [← e,e1] at hn;cases hn
   have s2:Same H (upd H1 ln (.lst [])):=s1.trans (same_upd hn)
   have e2:upd H1 ln (.lst []) l=some (.lst (cs.map fun c=>V.str ⟨#[c]⟩)):=by rw [upd_ne hnl];exact e1
   have e3:upd H1 ln (.lst []) ln=some (.lst (rowsV [])):=upd_same
   have frn:H ln=none:=s1.free hn
   generalize upd H1 ln (.lst [])=H2 at s2 e2 e3 ⊢
   refine seq_cut fun N1 h1=>?_
   walk_at "wp"
   refine ⟨by decide,?_⟩
   refine forw_range (n:=4) (fun i σ H'=>Same H H'∧(∃ ds:List Nat,H' l=some (.lst (ds.map fun c=>V.str ⟨#[c]⟩))∧(∀ x∈ds,capB x=true)∧ds.length=1 + m)∧(∃ p:Pic,H' ln=some (.lst (rowsV p))∧p.length=i∧∀ r∈p,nameB r=true)∧∃ x,σ=[some (V.int c),some (V.str (Str.ofString "ABCDEFGHIJKLMNOPQRSTUVWXYZ")),some (V.int (c / 8)),some (V.ref l),some (V.int k),some (V.int fi),some (V.int st),some (V.ref ln),x]) ⟨s2,⟨cs,e2,hcs,hcl⟩,⟨[],e3,rfl,fun r hr=>nomatch hr⟩,_,rfl⟩ ?_ ?_
   ·rintro i σ H' hi ⟨sm',⟨ds,hds,dcap,dl⟩,⟨p,hp,pl,pn⟩,x,rfl⟩
    walk_at "wp"
    obtain ⟨n,hn1,hn2⟩:=up26 (fi + (i:Int) * st)
    have nm:nameB (ds.set k (65 + n))=true:=by
     have hall:(ds.set k (65 + n)).all (inT CAPS)=true:=List.all_eq_true.mpr fun x hx=>by
      rcases List.mem_or_eq_of_mem_set hx with h | h
      ·exact dcap x h
      ·rw [h];exact cap_in n hn1
     unfold nameB onlyB
     rw [hall,List.length_set,dl]
     simp
     omega
    have es:(ds.map fun c=>V.str ⟨#[c]⟩).set k (V.str ⟨#[65 + n]⟩)=(ds.set k (65 + n)).map fun c=>V.str ⟨#[c]⟩:=by rw [List.map_set]
    refine ⟨.inl ⟨by omega,by omega⟩,by decide,65 + n,by rw [hn2];exact atI_nat (cap_at n hn1),_,hds,k,by rw [List.length_map,dl];unfold ixN;rw [if_pos (by omega),if_pos (by omega)];simp,?_⟩
    rw [es]
    have t1:upd H' l (.lst ((ds.set k (65 + n)).map fun c=>V.str ⟨#[c]⟩)) l=some (.lst ((ds.set k (65 + n)).map fun c=>V.str ⟨#[c]⟩)):=upd_same
    have t2:upd H' l (.lst ((ds.set k (65 + n)).map fun c=>V.str ⟨#[c]⟩)) ln=some (.lst (rowsV p)):=by rw [upd_ne (Ne.symm hnl)];exact hp
    have t3:Same H (upd H' l (.lst ((ds.set k (65 + n)).map fun c=>V.str ⟨#[c]⟩))):=same_upd2 sm' fr
    generalize upd H' l (.lst ((ds.set k (65 + n)).map fun c=>V.str ⟨#[c]⟩))=H3 at t1 t2 t3 ⊢
    refine ⟨.inl ⟨rfl,_,SqL.of t2⟩,rfl,(ds.set k (65 + n)).map fun c=>(⟨#[c]⟩:Str),.inl (SqL.of (by rw [t1,List.map_map];rfl)),?_,_,t2,?_,?_⟩
    ·have e1:((fun y:Str=>y.length) ∘ fun c=>(⟨#[c]⟩:Str))=fun _=>1:=by funext c;rfl
     have e0:(Str.ofString "").length=0:=rfl
     rw [List.map_map,e1,List.map_const',List.sum_replicate_nat,List.length_map,e0,List.length_set]
     omega
    ·rw [rowsV_length,pl];exact line_big (by omega)
    ·rw [join_ones]
     refine ⟨same_upd2 t3 frn,⟨ds.set k (65 + n),by rw [upd_ne hnl];exact t1,fun x hx=>?_,by rw [List.length_set,dl]⟩,p ++ [ds.set k (65 + n)],?_,by rw [List.length_append,pl];rfl,fun r hr=>?_⟩
     ·rcases List.mem_or_eq_of_mem_set hx with h | h
      ·exact dcap x h
      ·rw [h];exact cap_in n hn1
     ·rw [upd_same];unfold rowsV;rw [List.map_append];rfl
     ·rcases List.mem_append.mp hr with h | h
      ·exact pn r h
      ·rw [List.mem_singleton.mp h];exact nm
   ·rintro σ H' ⟨sm',_,⟨p,hp,pl,pn⟩,x,rfl⟩
    refine h1 _ _ ?_
    walk_at "wp"
    exact q ln p H' frn hp pl pn sm'
theorem catT_do {H:Hp} {a b:Addr} {xs ys:List V} {Q:VK} (ha:H a=some (.tup xs)) (hb:H b=some (.tup ys)) (hx:xs≠[]) (hy:ys≠[]) (hz:xs.length + ys.length≤1000) (q:∀ p,H p=none→Q (.ref p) (upd H p (.tup (xs ++ ys)))):rCatT K (.ref a) (.ref b) H Q:=
 ⟨a,b,xs,ys,rfl,rfl,SqT.of ha,SqT.of hb,hx,line_le (by omega),fun e=>absurd e hy,fun _=>q⟩
def rowV (r:Nat × RV):List V:=match r.1 with
 | 0=>[.str "cell",.str (tx r.2.n),.int r.2.c,.str (tx r.2.sg)]
 | 1=>[.str "beside",.str (tx r.2.n),.int r.2.c,.str (tx r.2.o1),.str (tx r.2.o2)]
 | 2=>[.str "above",.str (tx r.2.n),.int r.2.c,.str (tx r.2.o1),.str (tx r.2.o2)]
 | _=>[.str "turned",.str (tx r.2.n),.int r.2.c,.str (tx r.2.o1),.int r.2.t]
def RowsAt (H:Hp) (l:Addr) (ts:List Addr) (rs:List (Nat × RV)):Prop:=H l=some (.lst (ts.map V.ref))∧ts.length=rs.length∧∀ (i:Nat) t r,ts[i]?=some t→rs[i]?=some r→H t=some (.tup (rowV r))
theorem RowsAt.up {H H':Hp} {l:Addr} {ts:List Addr} {rs:List (Nat × RV)} (h:RowsAt H l ts rs) (s:Same H H'):RowsAt H' l ts rs:=⟨s _ _ h.1,h.2.1,fun i t r e1 e2=>s _ _ (h.2.2 i t r e1 e2)⟩
theorem kn1:V.str (Str.ofString "beside")≠V.str (Str.ofString "cell"):=fun h=>absurd (V.str.inj h) (by decide +kernel)
theorem kn2:V.str (Str.ofString "above")≠V.str (Str.ofString "cell"):=fun h=>absurd (V.str.inj h) (by decide +kernel)
theorem kn3:V.str (Str.ofString "turned")≠V.str (Str.ofString "cell"):=fun h=>absurd (V.str.inj h) (by decide +kernel)
theorem kn4:V.str (Str.ofString "above")≠V.str (Str.ofString "beside"):=fun h=>absurd (V.str.inj h) (by decide +kernel)
theorem kn5:V.str (Str.ofString "turned")≠V.str (Str.ofString "beside"):=fun h=>absurd (V.str.inj h) (by decide +kernel)
theorem kn6:V.str (Str.ofString "turned")≠V.str (Str.ofString "above"):=fun h=>absurd (V.str.inj h) (by decide +kernel)
theorem kn7:V.str (Str.ofString "beside")≠V.str (Str.ofString "turned"):=fun h=>absurd (V.str.inj h) (by decide +kernel)
theorem kn8:V.str (Str.ofString "above")≠V.str (Str.ofString "turned"):=fun h=>absurd (V.str.inj h) (by decide +kernel)
theorem k_cases {k:Nat} (h:k < 4):k=0∨k=1∨k=2∨k=3:=by omega
structure GoodR (r:Nat × RV):Prop where
 k4:r.1 < 4
 good:r.2.good
 small:r.2.small
abbrev s_l_rule:Stmt:=top 50
def sp_l_rule (R:RC):Sp:=fun vs H Q _=>∃ (t:Addr) (r:Nat × RV),vs=[.ref t]∧H t=some (.tup (rowV r))∧GoodR r∧∀ b H',RuleAt R H' r.1 b r.2→Same H H'→Q (.ref b) H'
theorem sc_l_rule:FnScope ["_law_told"] ["_law_told"] (defScope s_l_rule):=⟨rfl,rfl,rfl,by decide +kernel,rfl,by decide +kernel,by decide +kernel⟩
theorem ok_l_rule {R:RC} {f CF:Addr} {fd:FuncData} (F:Fun K "_law_rule_made" "_law_rule_made" s_l_rule f fd) (nb:NB mg) (rk:RKit K R)
  (zDa:CalK P w K mg base (CX1 P w) 4 "CellRule" R.cc ["self","name","cost","sign"] (sp_cell_init K CF)) (zYa:CalK P w K mg base (CX1 P w) 4 "BesideRule" R.cb ["self","name","cost","one","other"] (sp_pair_init K CF))
  (zhb:CalK P w K mg base (CX1 P w) 4 "AboveRule" R.ca ["self","name","cost","one","other"] (sp_pair_init K CF)) (zxb:CalK P w K mg base (CX1 P w) 4 "TurnRule" R.ct ["self","name","cost","part","turning"] (sp_turn_init K CF)):FnOk P w K mg base CX0 6 f fd ["_law_told"] (sp_l_rule R):=by
 have sc:=sc_l_rule
 refine F.ok sc (fun vs H Q E h=>?_) (fun cdv A outer s H vs Q E hr h=>?_)
 ·obtain ⟨t,r,rfl,_⟩:=h;rfl
 ·obtain ⟨t,⟨k,v⟩,rfl,ht,⟨hk,g,sm⟩,good⟩:=h
  refine ⟨_,(pss_cons (ps_if (pt_cmpR op_eq (pe_ix ix_tup (pv 0) pe_int (fun _ _=>rfl)) pe_str (nomark _))
   (pss_one (ps_ret (pe_calK (CX:=CX1 P w) zDa (hr.mono (by decide)) rfl passes_E0 (pa_cons (pe_ix ix_tup (pv 0) pe_int (fun _ _=>rfl)) (pa_cons (pe_ix ix_tup (pv 0) pe_int (fun _ _=>rfl)) (pa_cons (pe_ix ix_tup (pv 0) pe_int (fun _ _=>rfl)) pa_nil))))))
   pss_nil)
   (pss_cons (ps_if (pt_cmpR op_eq (pe_ix ix_tup (pv 0) pe_int (fun _ _=>rfl)) pe_str (nomark _))
   (pss_one (ps_ret (pe_calK (CX:=CX1 P w) zYa (hr.mono (by decide)) rfl passes_E0 (pa_cons (pe_ix ix_tup (pv 0) pe_int (fun _ _=>rfl)) (pa_cons (pe_ix ix_tup (pv 0) pe_int (fun _ _=>rfl)) (pa_cons (pe_ix ix_tup (pv 0) pe_int (fun _ _=>rfl)) (pa_cons (pe_ix ix_tup (pv 0) pe_int (fun _ _=>rfl)) pa_nil)))))))
   pss_nil)
   (pss_cons (ps_if (pt_cmpR op_eq (pe_ix ix_tup (pv 0) pe_int (fun _ _=>rfl)) pe_str (nomark _))
   (pss_one (ps_ret (pe_calK (CX:=CX1 P w) zhb (hr.mono (by decide)) rfl passes_E0 (pa_cons (pe_ix ix_tup (pv 0) pe_int (fun _ _=>rfl)) (pa_cons (pe_ix ix_tup (pv 0) pe_int (fun _ _=>rfl)) (pa_cons (pe_ix ix_tup (pv 0) pe_int (fun _ _=>rfl)) (pa_cons (pe_ix ix_tup (pv 0) pe_int (fun _ _=>rfl)) pa_nil)))))))
   pss_nil)
   (pss_one (ps_ret (pe_calK (CX:=CX1 P w) zxb (hr.mono (by decide)) rfl passes_E0 (pa_cons (pe_ix ix_tup (pv 0) pe_int (fun _ _=>rfl)) (pa_cons (pe_ix ix_tup (pv 0) pe_int (fun _ _=>rfl)) (pa_cons (pe_ix ix_tup (pv 0) pe_int (fun _ _=>rfl)) (pa_cons (pe_ix ix_tup (pv 0) pe_int (fun _ _=>rfl)) pa_nil)))))))))),?_⟩
  have sq:=SqT.of (K:=K) ht
  have g:v.good:=g
  have sm:v.small:=g.small
  have bn:v.n.length≤100000:=by have:=sm.n;omega
  have b1:v.o1.length≤100000:=by have:=sm.o1;omega
  have b2:v.o2.length≤100000:=by have:=sm.o2;omega
  have bs:v.sg.length≤100000:=by have:=sm.sg;omega
  walk_at "wp"
  rcases k_cases hk with rfl | rfl | rfl | rfl
  ·change SqT K H t [.str (Str.ofString "cell"),.str (tx v.n),.int v.c,.str (tx v.sg)] at sq
   refine ⟨_,sq,_,rfl,rfl,?_⟩
   rw [if_pos rfl]
   refine ⟨_,sq,_,rfl,_,sq,_,rfl,_,sq,_,rfl,fun x dx hx hd hne=>?_⟩
   exact ⟨x,R.cc,dx,v.n,v.sg,v.c,rfl,upd_same,rk.i0.cl,rk.a0,bn,bs,fun ok pl H' sx hpl hl' ha=>⟨rfl,good x H' ⟨dx,pl,ha,hl'⟩ (sameX_new hx hd sx)⟩,fun nok=>absurd (g.ok 0) nok⟩
  ·change SqT K H t [.str (Str.ofString "beside"),.str (tx v.n),.int v.c,.str (tx v.o1),.str (tx v.o2)] at sq
   refine ⟨_,sq,_,rfl,rfl,?_⟩
   rw [if_neg kn1]
   refine ⟨_,sq,_,rfl,rfl,?_⟩
   rw [if_pos rfl]
   refine ⟨_,sq,_,rfl,_,sq,_,rfl,_,sq,_,rfl,_,sq,_,rfl,fun x dx hx hd hne=>?_⟩
   exact ⟨x,R.cb,dx,v.n,v.o1,v.o2,v.c,rfl,upd_same,rk.i1.cl,rk.a1,bn,b1,b2,fun ok pl H' sx hpl hl' ha=>⟨rfl,good x H' ⟨dx,pl,ha,hl'⟩ (sameX_new hx hd sx)⟩,fun nok=>absurd (g.ok 1) nok⟩
  ·change SqT K H t [.str (Str.ofString "above"),.str (tx v.n),.int v.c,.str (tx v.o1),.str (tx v.o2)] at sq
   refine ⟨_,sq,_,rfl,rfl,?_⟩
   rw [if_neg kn2]
   refine ⟨_,sq,_,rfl,rfl,?_⟩
   rw [if_neg kn4]
   refine ⟨_,sq,_,rfl,rfl,?_⟩
   rw [if_pos rfl]
   refine ⟨_,sq,_,rfl,_,sq,_,rfl,_,sq,_,rfl,_,sq,_,rfl,fun x dx hx hd hne=>?_⟩
   exact ⟨x,R.ca,dx,v.n,v.o1,v.o2,v.c,rfl,upd_same,rk.i2.cl,rk.a2,bn,b1,b2,fun ok pl H' sx hpl hl' ha=>⟨rfl,good x H' ⟨dx,pl,ha,hl'⟩ (sameX_new hx hd sx)⟩,fun nok=>absurd (g.ok 2) nok⟩
  ·change SqT K H t [.str (Str.ofString "turned"),.str (tx v.n),.int v.c,.str (tx v.o1),.int v.t] at sq
   refine ⟨_,sq,_,rfl,rfl,?_⟩
   rw [if_neg kn3]
   refine ⟨_,sq,_,rfl,rfl,?_⟩
   rw [if_neg kn5]
   refine ⟨_,sq,_,rfl,rfl,?_⟩
   rw [if_neg kn6]
   refine ⟨_,sq,_,rfl,_,sq,_,rfl,_,sq,_,rfl,_,sq,_,rfl,fun x dx hx hd hne=>?_⟩
   exact ⟨x,R.ct,dx,v.n,v.o1,v.c,v.t,rfl,upd_same,rk.i3.cl,rk.a3,bn,b1,fun ok pl H' sx hpl hl' ha=>⟨rfl,good x H' ⟨dx,pl,ha,hl'⟩ (sameX_new hx hd sx)⟩,fun nok=>absurd (g.ok 3) nok⟩
structure RowOf (p:Pic) (sg:List Nat) (r:Nat × RV):Prop where
 good:GoodR r
 n:r.2.n∈p
 o1:r.2.o1∈p
 o2:r.2.o2∈p
 sg:∃ c∈sg,r.2.sg=[c]
theorem RowsAt.app {H:Hp} {l t:Addr} {ts:List Addr} {rs:List (Nat × RV)} {r:Nat × RV} (h:RowsAt H l ts rs) (ht:H t=some (.tup (rowV r))):RowsAt (upd H l (.lst (ts.map V.ref ++ [V.ref t]))) l (ts ++ [t]) (rs ++ [r]):=by
 obtain ⟨h1,h2,h3⟩:=h
 refine ⟨by rw [upd_same,List.map_append];rfl,by rw [List.length_append,List.length_append,h2];rfl,fun i t' r' e1 e2=>?_⟩
 have hold:∀ t' r',H t'=some (.tup (rowV r'))→upd H l (.lst (ts.map V.ref ++ [V.ref t])) t'=some (.tup (rowV r')):=fun t' r' e=>by
  rw [upd_ne (fun z=>by rw [z,h1] at e;cases e)];exact e
 by_cases hi:i < ts.length
 ·rw [List.getElem?_append_left hi] at e1
  rw [List.getElem?_append_left (by omega)] at e2
  exact hold _ _ (h3 i t' r' e1 e2)
 ·rw [List.getElem?_append_right (by omega)] at e1
  rw [List.getElem?_append_right (by omega)] at e2
  have hi2:i=ts.length:=by
   have:=(List.getElem?_eq_some_iff.mp e1).1
   simp at this;omega
  subst hi2
  rw [Nat.sub_self] at e1
  rw [h2,Nat.sub_self] at e2
  cases e1;cases e2
  exact hold _ _ ht
theorem signsB_only {r:List Nat} (h:signsB r=true):onlyB r SMALLS11=true:=by
 unfold signsB at h
 simp only [Bool.and_eq_true,decide_eq_true_eq] at h
 exact h.1.2
theorem sign_of {r:List Nat} {c:Nat} (h:signsB r=true) (hc:c∈r):signB [c]=true:=by
 have:=signsB_only h
 unfold onlyB at this
 rw [List.all_eq_true] at this
 unfold signB onlyB
 rw [List.all_cons,this c hc]
 rfl
def addNew (ks:List Str) (z:Str):List Str:=if z∈ks then ks else ks ++ [z]
theorem keys_name (m:List (Str × List Nat)) (z:Str):(ntName m z).map (·.1)=addNew (m.map (·.1)) z:=by
 unfold ntName addNew
 split
 ·rfl
 ·rw [List.map_append];rfl
theorem keys_names:∀ (zs:List Str) (m:List (Str × List Nat)),(zs.foldl ntName m).map (·.1)=zs.foldl addNew (m.map (·.1))
 | [],_=>rfl
 | z :: zs,m=>by rw [List.foldl_cons,List.foldl_cons,keys_names zs,keys_name]
theorem keys_step (m:List (Str × List Nat)) (i:Nat) (r:Nat × RV):(numStep m i r).map (·.1)=(tx r.2.n :: (partsK r.1 r.2).map tx).foldl addNew (m.map (·.1)):=by
 unfold numStep
 rw [keys_names,ntPut_keys,keys_name,List.foldl_cons]
def idxOf (z:Str) (rs:List (Nat × RV)):List Nat:=rs.zipIdx.filterMap fun x=>if tx x.1.2.n=z then some x.2 else none
theorem idxOf_snoc (z:Str) (rs:List (Nat × RV)) (r:Nat × RV):idxOf z (rs ++ [r])=idxOf z rs ++ if tx r.2.n=z then [rs.length] else []:=by
 unfold idxOf
 rw [List.zipIdx_append,List.filterMap_append]
 congr 1
 simp
 split <;> rename_i h <;> simp [h]
theorem idxOf_none {z:Str}:∀ {rs:List (Nat × RV)},(∀ r∈rs,tx r.2.n≠z)→idxOf z rs=[]:=by
 intro rs h
 unfold idxOf
 rw [List.filterMap_eq_nil_iff]
 intro x hx
 rw [if_neg (h x.1 (List.fst_mem_of_mem_zipIdx hx))]
structure NI (rs:List (Nat × RV)) (m:List (Str × List Nat)):Prop where
 nd:(m.map (·.1)).Nodup
 ix:∀ q∈m,q.2=idxOf q.1 rs
 all:∀ r∈rs,tx r.2.n∈m.map (·.1)
theorem ntName_mem {m:List (Str × List Nat)} {z y:Str}:y∈(ntName m z).map (·.1)↔y∈m.map (·.1)∨y=z:=by
 unfold ntName
 split
 ·rename_i h
  exact ⟨fun q=>.inl q,fun q=>q.elim id fun e=>e ▸ h⟩
 ·rw [List.map_append,List.mem_append];simp
theorem NI.name {rs:List (Nat × RV)} {m:List (Str × List Nat)} (h:NI rs m) (z:Str):NI rs (ntName m z):=by
 refine ⟨ntName_nodup h.nd,fun q hq=>?_,fun r hr=>ntName_mem.mpr (.inl (h.all r hr))⟩
 unfold ntName at hq
 split at hq
 ·exact h.ix q hq
 ·rename_i hz
  rcases List.mem_append.mp hq with q1 | q1
  ·exact h.ix q q1
  ·rw [List.mem_singleton.mp q1]
   exact (idxOf_none (z:=z) fun r hr e=>hz (by rw [← e];exact h.all r hr)).symm
theorem NI.names {rs:List (Nat × RV)}:∀ (zs:List Str) {m:List (Str × List Nat)},NI rs m→NI rs (zs.foldl ntName m)
 | [],_,h=>h
 | z :: zs,m,h=>NI.names zs (h.name z)
theorem NI.put {rs:List (Nat × RV)} {m:List (Str × List Nat)} {r:Nat × RV} (h:NI rs m) (hn:tx r.2.n∈m.map (·.1)):NI (rs ++ [r]) (ntPut m (tx r.2.n) rs.length):=by
 refine ⟨by rw [ntPut_keys];exact h.nd,fun q hq=>?_,fun r' hr'=>?_⟩
 ·unfold ntPut at hq
  obtain ⟨p,hp,rfl⟩:=List.mem_map.mp hq
  rw [idxOf_snoc]
  by_cases e:p.1=tx r.2.n
  ·rw [if_pos e]
   show p.2 ++ [rs.length]=idxOf p.1 rs ++ _
   rw [if_pos e.symm,h.ix p hp]
  ·rw [if_neg e,if_neg (fun z=>e z.symm),List.append_nil]
   exact h.ix p hp
 ·rw [ntPut_keys]
  rcases List.mem_append.mp hr' with q | q
  ·exact h.all r' q
  ·rw [List.mem_singleton.mp q];exact hn
theorem numsGo_NI (z:Str):∀ (n:Nat) (rs:List (Nat × RV)),rs.length=n→NI rs (numsOf z rs)
 | 0,rs,h=>by
  rw [List.length_eq_zero_iff.mp h]
  exact ⟨by simp [numsOf,numsGo],fun q hq=>by rw [show q=(z,[]) by simpa [numsOf,numsGo] using hq];rfl,fun r hr=>nomatch hr⟩
 | n + 1,rs,h=>by
  obtain ⟨rs',r,rfl⟩:∃ rs' r,rs=rs' ++ [r]:=⟨rs.dropLast,rs.getLast (by intro e;rw [e] at h;cases h),(List.dropLast_concat_getLast _).symm⟩
  have hl:rs'.length=n:=by rw [List.length_append,List.length_singleton] at h;omega
  have ih:=numsGo_NI z n rs' hl
  unfold numsOf at ih ⊢
  rw [numsGo_snoc,Nat.zero_add]
  unfold numStep
  exact ((ih.name (tx r.2.n)).put (ntName_mem.mpr (.inr rfl))).names _
theorem RowsAt.zip {H:Hp} {l:Addr} {ts:List Addr} {rs:List (Nat × RV)} (h:RowsAt H l ts rs):(ts.zip rs).map (fun x=>V.ref x.1)=ts.map V.ref∧(ts.zip rs).map (·.2)=rs∧∀ x∈ts.zip rs,H x.1=some (.tup (rowV x.2)):=by
 obtain ⟨h1,h2,h3⟩:=h
 refine ⟨?_,List.map_snd_zip (by omega),fun x hx=>?_⟩
 ·have e:(ts.zip rs).map (fun x=>V.ref x.1)=((ts.zip rs).map Prod.fst).map V.ref:=by rw [List.map_map];rfl
  rw [e,List.map_fst_zip (by omega)]
 ·obtain ⟨i,hi,e⟩:=List.mem_iff_getElem.mp hx
  rw [List.length_zip] at hi
  have e2:(ts.zip rs)[i]?=some x:=by rw [List.getElem?_eq_getElem (by rw [List.length_zip];exact hi),e]
  rw [List.getElem?_zip_eq_some] at e2
  exact h3 i x.1 x.2 e2.1 e2.2
theorem rules_comp {R:RC} {H:Hp} {l:Addr} {ts:List Addr} {rs:List (Nat × RV)} {Q:List V→Hp→Prop} (hR:RowsAt H l ts rs) (hg:∀ r∈rs,GoodR r) (hn:rs.length≤100) (q:∀ (as:List Addr) H',Same H H'→RulesAt R H' as rs→Q (as.map V.ref) H') :
  CompW (Itl K l) (gName 0) tNoIf (tCall (sp_l_rule R) [] E0 (tCons (tVar 0) tNil)) [none] H Q:=by
 obtain ⟨hl,htl,hat⟩:=hR
 refine comp_list (xs:=ts.map V.ref) (fun i acc σ H'=>Same H H'∧(∃ as:List Addr,acc=as.map V.ref∧RulesAt R H' as (rs.take i))∧i≤ts.length∧∃ x,σ=[x]) ⟨Same.refl _,⟨[],rfl,rfl,fun i a r e=>by simp at e⟩,Nat.zero_le _,_,rfl⟩ ?_ ?_ ?_ ?_ ?_
 ·rintro i acc σ H' ⟨_,⟨as,rfl,h,_⟩,hi,_⟩
  rw [List.length_map,h,List.length_take];exact line_big (by omega)
 ·rintro i acc σ H' ⟨_,_,h,_⟩
  rw [List.length_map];exact h
 ·rintro i acc σ H' ⟨sm,_⟩
  exact SqL.of (sm _ _ hl)
 ·rintro i x acc σ H' hx ⟨sm,⟨as,rfl,hA⟩,hi,y,rfl⟩
  have hlt:i < ts.length:=by have:=(List.getElem?_eq_some_iff.mp hx).1;rwa [List.length_map] at this
  rw [List.getElem?_map,List.getElem?_eq_getElem hlt] at hx
  cases hx
  have hlr:i < rs.length:=by omega
  have hrr:rs[i]?=some rs[i]:=List.getElem?_eq_getElem hlr
  have ht:=sm _ _ (hat i ts[i] rs[i] (List.getElem?_eq_getElem hlt) hrr)
  walk_at "wp"
  refine ⟨ts[i],rs[i],rfl,ht,hg _ (List.getElem_mem hlr),fun b H2 hb s2=>⟨sm.trans s2,⟨as ++ [b],by rw [List.map_append];rfl,?_⟩,hlt⟩⟩
  have hal:as.length=i:=by have:=hA.1;rw [List.length_take] at this;omega
  rw [List.take_add_one,hrr]
  refine ⟨by rw [List.length_append,List.length_append,hA.1];rfl,fun j a r e1 e2=>?_⟩
  by_cases hj:j < as.length
  ·rw [List.getElem?_append_left hj] at e1
   rw [List.getElem?_append_left (by rw [← hA.1];exact hj)] at e2
   exact (hA.2 j a r e1 e2).up s2
  ·rw [List.getElem?_append_right (by omega)] at e1
   rw [List.getElem?_append_right (by rw [← hA.1];omega)] at e2
   have:j - as.length=0:=by
    have:=(List.getElem?_eq_some_iff.mp e1).1
    simp at this;omega
   rw [this] at e1
   rw [← hA.1,this] at e2
   cases e1;cases e2
   exact hb
 ·rintro acc σ H' ⟨sm,⟨as,rfl,hA⟩,_⟩
  rw [List.length_map,htl,List.take_length] at hA
  exact q as H' sm hA
def nrs (rs:List (Nat × RV)):List ThM.NR:=rs.map fun r=>(tx r.2.n,(partsK r.1 r.2).map tx)
theorem addNew_mem {ks:List Str} {z y:Str}:y∈addNew ks z↔y∈ks∨y=z:=ThM.mem_addNew
theorem fold_mem {y:Str}:∀ (zs ks:List Str),y∈zs.foldl addNew ks↔y∈ks∨y∈zs
 | [],ks=>by simp
 | z :: zs,ks=>by
  rw [List.foldl_cons,fold_mem zs,addNew_mem,List.mem_cons]
  exact ⟨fun h=>h.elim (fun h=>h.elim .inl fun e=>.inr (.inl e)) fun h=>.inr (.inr h),fun h=>h.elim (fun h=>.inl (.inl h)) fun h=>h.elim (fun e=>.inl (.inr e)) .inr⟩
theorem keys_snoc (z:Str) (rs:List (Nat × RV)) (r:Nat × RV):(numsOf z (rs ++ [r])).map (·.1)=(tx r.2.n :: (partsK r.1 r.2).map tx).foldl addNew ((numsOf z rs).map (·.1)):=by
 unfold numsOf
 rw [numsGo_snoc,keys_step]
theorem snoc_ind {α:Type} {P:List α→Prop} (h0:P []) (h1:∀ rs r,P rs→P (rs ++ [r])) (rs:List α):P rs:=by
 have:∀ (n:Nat) (rs:List α),rs.length=n→P rs:=by
  intro n
  induction n with
  | zero=>intro rs h;rw [List.length_eq_zero_iff.mp h];exact h0
  | succ n ih=>
   intro rs h
   have hne:rs≠[]:=by intro e;rw [e] at h;cases h
   rw [← List.dropLast_concat_getLast hne]
   exact h1 _ _ (ih _ (by rw [List.length_dropLast];omega))
 exact this _ rs rfl
theorem keys_mem (z:Str) (rs:List (Nat × RV)):∀ y,y∈(numsOf z rs).map (·.1)↔y=z∨∃ r∈nrs rs,y=r.1∨y∈r.2:=by
 refine snoc_ind (P:=fun rs=>∀ y,y∈(numsOf z rs).map (·.1)↔y=z∨∃ r∈nrs rs,y=r.1∨y∈r.2) ?_ ?_ rs
 ·intro y
  have e:(numsOf z []).map (·.1)=[z]:=rfl
  rw [e]
  unfold nrs
  simp
 ·intro rs r ih y
  rw [keys_snoc,fold_mem,ih y,List.mem_cons]
  unfold nrs
  rw [List.map_append]
  constructor
  ·rintro ((h | ⟨q,hq,h⟩) | h)
   ·exact .inl h
   ·exact .inr ⟨q,List.mem_append.mpr (.inl hq),h⟩
   ·exact .inr ⟨_,List.mem_append.mpr (.inr (List.mem_singleton.mpr rfl)),h⟩
  ·rintro (h | ⟨q,hq,h⟩)
   ·exact .inl (.inl h)
   ·rcases List.mem_append.mp hq with hq | hq
    ·exact .inl (.inr ⟨q,hq,h⟩)
    ·rw [List.mem_singleton.mp hq] at h
     exact .inr h
theorem inS_mem {sg:List Nat} {c:Nat} (h:c∈sg):inS (tx sg) (tx [c])=true:=by
 have:=StrLaws.found_one (tx sg) c
 show (!(Builtin.Str.occurrences (tx sg) ⟨#[c]⟩ 0 (tx sg).length 1).isEmpty)=true
 rw [this,tx_list,decide_eq_true h]
theorem badSign_none {sg:List Nat}:∀ {rs:List (Nat × RV)} {j:Nat},(∀ r∈rs,∃ c∈sg,r.2.sg=[c])→badSign (tx sg) rs j=none
 | [],_,_=>rfl
 | r :: rs,j,h=>by
  obtain ⟨c,hc,e⟩:=h r List.mem_cons_self
  unfold badSign
  rw [if_neg (fun z=>by rw [e,inS_mem hc] at z;exact absurd z.2 (by decide))]
  exact badSign_none fun r' hr'=>h r' (List.mem_cons_of_mem _ hr')
theorem rows_make {p:Pic} {sg st:List Nat} {rs:List (Nat × RV)} (hsg:signsB sg=true) (hst:st∈p) (hpn:∀ r∈p,nameB r=true) (hp:p.length≤8) (hn:rs.length≤24) (hr:∀ r∈rs,RowOf p sg r):gFault sg st rs=none:=by
 have h0:gFault0 sg st rs=none:=by
  unfold gFault0
  rw [if_neg (by rw [hsg];decide),if_neg (by rw [hpn _ hst];decide),if_neg (by omega),badSign_none fun r h=>(hr r h).sg]
 unfold gFault
 rw [h0]
 simp only []
 rw [if_neg]
 have hk:∀ z∈(numsOf (tx st) rs).map (·.1),z∈p.map tx:=fun z hz=>by
  rcases (keys_mem _ _ _).mp hz with e | ⟨q,hq,e⟩
  ·rw [e];exact List.mem_map_of_mem hst
  ·unfold nrs at hq
   obtain ⟨r,hr',rfl⟩:=List.mem_map.mp hq
   have R:=hr r hr'
   rcases e with e | e
   ·rw [e];exact List.mem_map_of_mem R.n
   ·obtain ⟨y,hy,rfl⟩:=List.mem_map.mp e
    refine List.mem_map_of_mem ?_
    obtain ⟨k,v⟩:=r
    rcases k_cases R.good.k4 with rfl | rfl | rfl | rfl
    ·exact absurd hy List.not_mem_nil
    ·rcases (show y=v.o1∨y=v.o2 by simpa [partsK] using hy) with rfl | rfl
     ·exact R.o1
     ·exact R.o2
    ·rcases (show y=v.o1∨y=v.o2 by simpa [partsK] using hy) with rfl | rfl
     ·exact R.o1
     ·exact R.o2
    ·rw [show y=v.o1 by simpa [partsK] using hy];exact R.o1
 have:=ThM.nd_len (numsGo_NI (tx st) _ rs rfl).nd hk
 rw [List.length_map,List.length_map] at this
 omega
theorem RulesAt.zip {R:RC} {H:Hp} {as:List Addr} {rs:List (Nat × RV)} (h:RulesAt R H as rs):(as.zip rs).map (fun x=>V.ref x.1)=as.map V.ref∧(as.zip rs).map (·.2)=rs∧∀ x∈as.zip rs,RuleAt R H x.2.1 x.1 x.2.2:=by
 refine ⟨?_,List.map_snd_zip (by have:=h.1;omega),fun x hx=>?_⟩
 ·have e:(as.zip rs).map (fun x=>V.ref x.1)=((as.zip rs).map Prod.fst).map V.ref:=by rw [List.map_map];rfl
  rw [e,List.map_fst_zip (by have:=h.1;omega)]
 ·obtain ⟨i,hi,e⟩:=List.mem_iff_getElem.mp hx
  have e2:(as.zip rs)[i]?=some x:=by rw [List.getElem?_eq_getElem hi,e]
  rw [List.getElem?_zip_eq_some] at e2
  exact h.2 i x.1 x.2 e2.1 e2.2
structure GNA (K:W.Frag) (C:Addr):Prop where
 cl:ICls K C
 na:NoAttr K C "signs"∧NoAttr K C "start"∧NoAttr K C "kept"∧NoAttr K C "numbers"
abbrev s_l_drawn_rule:Stmt:=top 51
def sp_l_drawn_rule:Sp:=fun vs H Q _=>∃ (c:Int) (b:Addr) (p:Pic) (sg:List Nat),vs=[.int c,.ref b,.str (tx sg)]∧H b=some (.lst (rowsV p))∧p.length=4∧(∀ r∈p,nameB r=true)∧signsB sg=true ∧
 ∀ t r H',RowOf p sg r→H' t=some (.tup (rowV r))→((c % 4=0→r.1=0)∧(c % 4=1→r.1=3)∧(c % 4≠0→c % 4≠1→r.1=1∨r.1=2))→Same H H'→Q (.ref t) H'
theorem sc_l_drawn_rule:FnScope ["_law_cell_here","_law_names_here","_law_signs_here","_law_rest","_law_head","_law_parts_here"] ["_law_cell_here","_law_names_here","_law_signs_here"] (defScope s_l_drawn_rule):=⟨rfl,rfl,rfl,by decide +kernel,rfl,by decide +kernel,by decide +kernel⟩
theorem ok_l_drawn_rule {f:Addr} {fd:FuncData} (F:Fun K "_law_drawn_rule" "_law_drawn_rule" s_l_drawn_rule f fd) (nb:NB mg):FnOk P w K mg base CX0 1 f fd ["_law_cell_here","_law_names_here","_law_signs_here"] sp_l_drawn_rule:=by
 have sc:=sc_l_drawn_rule
 refine F.ok sc (fun vs H Q E h=>?_) (fun cdv A outer s H vs Q E hr h=>?_)
 ·obtain ⟨c,b,p,sg,rfl,_⟩:=h;rfl
 ·obtain ⟨c,b,p,sg,rfl,hb,hp,hpn,hsg,q⟩:=h
  refine ⟨_,(pss_cons (ps_set (i:=3) sc.nd rfl (Or.inl rfl) (pe_op op_fdivP (pv 0) pe_int))
   (pss_cons (ps_set (i:=4) sc.nd rfl (Or.inl rfl) (pe_tup (pa_cons (pe_ix ix_list (pv 1) (pe_op op_mod (pv 3) pe_int) (fun _ _=>rfl)) (pa_cons (pe_op op_add pe_int (pe_op op_mod (pe_op op_fdivP (pv 3) pe_int) pe_int)) pa_nil))))
   (pss_cons (ps_set (i:=5) sc.nd rfl (Or.inl rfl) (pe_tup (pa_cons (pe_ix ix_list (pv 1) (pe_op op_mod (pe_op op_fdivP (pv 3) pe_int) pe_int) (fun _ _=>rfl)) (pa_cons (pe_ix ix_list (pv 1) (pe_op op_mod (pe_op op_fdivP (pv 3) pe_int) pe_int) (fun _ _=>rfl)) pa_nil))))
   (pss_cons (ps_if (pt_cmpR op_eq (pe_op op_mod (pv 0) pe_int) pe_int (nomark _))
   (pss_one (ps_ret (pe_op op_catT (pe_op op_catT (pe_tup (pa_consS pa_nil)) (pv 4)) (pe_tup (pa_cons (pe_ix ix_str (pv 2) (pe_op op_mod (pe_op op_fdivP (pv 3) pe_int) (pe_callB call_len_str rfl nb.len bt_len (pa_cons (pv 2) pa_nil))) (fun _ _=>rfl)) pa_nil)))))
   pss_nil)
   (pss_cons (ps_if (pt_cmpR op_eq (pe_op op_mod (pv 0) pe_int) pe_int (nomark _))
   (pss_one (ps_ret (pe_op op_catT (pe_op op_catT (pe_tup (pa_consS pa_nil)) (pv 4)) (pe_tup (pa_cons (pe_ix ix_tup (pv 5) pe_int (fun _ _=>rfl)) (pa_cons (pe_op op_mod (pe_op op_fdivP (pv 3) pe_int) pe_int) pa_nil))))))
   pss_nil)
   (pss_one (ps_ret (pe_op op_catT (pe_op op_catT (pe_tup (pa_cons (pe_ix ix_tup (pe_tup (pa_consS (pa_consS pa_nil))) (pe_op op_mod (pv 0) pe_int) (fun _ _=>rfl)) pa_nil)) (pv 4)) (pv 5))))))))),?_⟩
  have hsl:=signsB_len hsg
  have pick:∀ x:Int,∃ z∈p,atI (rowsV p) (x % 4)=some (V.str (tx z)):=fun x=>by
   obtain ⟨j,hj⟩:∃ j:Nat,x % 4=(j:Int):=⟨_,(Int.toNat_of_nonneg (Int.emod_nonneg _ (by omega))).symm⟩
   have:x % 4 < 4:=Int.emod_lt_of_pos _ (by omega)
   exact ⟨p[j]'(by omega),List.getElem_mem _,by rw [hj];exact atI_nat (rowsV_get (by omega))⟩
  have spick:∀ x:Int,∃ c∈sg,atI (tx sg).cps.toList (x % (sg.length:Int))=some c:=fun x=>by
   rw [tx_list]
   exact atI_in (Int.emod_nonneg _ (by omega)) (Int.emod_lt_of_pos _ (by omega))
  have hsz:(tx sg).length≤sizeLine:=by rw [tx_length];exact line_le (by omega)
  refine seq_cut fun N1 h1=>?_
  walk_at "wp"
  refine h1 _ _ ?_
  clear h1
  refine seq_cut fun N1 h1=>?_
  walk_at "wp"
  obtain ⟨z1,hz1,p1⟩:=pick (c / 4)
  refine ⟨_,SqL.of hb,_,p1,line_le (by decide),fun th hth=>h1 _ _ ?_⟩
  clear h1
  have s1:Same H (upd H th (.tup [V.str (tx z1),V.int (1 + c / 4 / 4 % 9)])):=same_upd hth
  have e1:upd H th (.tup [V.str (tx z1),V.int (1 + c / 4 / 4 % 9)]) th=some (.tup [V.str (tx z1),V.int (1 + c / 4 / 4 % 9)]):=upd_same
  generalize upd H th (.tup [V.str (tx z1),V.int (1 + c / 4 / 4 % 9)])=H1 at s1 e1 ⊢
  refine seq_cut fun N1 h1=>?_
  walk_at "wp"
  obtain ⟨z2,hz2,p2⟩:=pick (c / 4 / 36)
  obtain ⟨z3,hz3,p3⟩:=pick (c / 4 / 144)
  refine ⟨_,SqL.of (s1 _ _ hb),_,p2,_,SqL.of (s1 _ _ hb),_,p3,line_le (by decide),fun tp htp=>h1 _ _ ?_⟩
  clear h1
  have s2:Same H1 (upd H1 tp (.tup [V.str (tx z2),V.str (tx z3)])):=same_upd htp
  have e2:upd H1 tp (.tup [V.str (tx z2),V.str (tx z3)]) tp=some (.tup [V.str (tx z2),V.str (tx z3)]):=upd_same
  generalize upd H1 tp (.tup [V.str (tx z2),V.str (tx z3)])=H2 at s2 e2 ⊢
  have e1':=s2 _ _ e1
  have sm:=s1.trans s2
  clear s1 s2 e1
  obtain ⟨ch,hch,pc⟩:=spick (c / 4 / 36)
  have t0:0≤c / 4 / 144 % 8:=Int.emod_nonneg _ (by omega)
  have t7:c / 4 / 144 % 8 < 8:=Int.emod_lt_of_pos _ (by omega)
  have c0:0≤c / 4 / 4 % 9:=Int.emod_nonneg _ (by omega)
  have c9:c / 4 / 4 % 9 < 9:=Int.emod_lt_of_pos _ (by omega)
  have gd:∀ k,k < 4→RowOf p sg (k,⟨z1,1 + c / 4 / 4 % 9,z2,z3,[ch],c / 4 / 144 % 8⟩):=fun k hk=>by
   have g:RV.good ⟨z1,1 + c / 4 / 4 % 9,z2,z3,[ch],c / 4 / 144 % 8⟩:=⟨hpn _ hz1,by show 1≤1 + c / 4 / 4 % 9;omega,by show 1 + c / 4 / 4 % 9≤9;omega,hpn _ hz2,hpn _ hz3,sign_of hsg hch,t0,by show c / 4 / 144 % 8≤7;omega⟩
   exact ⟨⟨hk,g,g.small⟩,hz1,hz2,hz3,ch,hch,rfl⟩
  walk_at "wp"
  by_cases k0:c % 4=0
  ·rw [if_pos k0]
   refine ⟨line_le (by decide),fun p1 hp1=>?_⟩
   refine catT_do upd_same (same_upd hp1 _ _ e1') (by simp) (by simp) (by simp) fun p2 hp2=>?_
   walk_at "wp"
   refine ⟨hsz,by rw [tx_length];omega,hsz,ch,by rw [tx_length];exact pc,line_le (by decide),fun p3 hp3=>?_⟩
   refine catT_do (same_upd hp3 _ _ upd_same) upd_same (by simp) (by simp) (by simp) fun p4 hp4=>?_
   refine q p4 (0,⟨z1,1 + c / 4 / 4 % 9,z2,z3,[ch],c / 4 / 144 % 8⟩) _ (gd 0 (by decide)) upd_same ⟨fun _=>rfl,fun h=>absurd (k0.symm.trans h) (by decide),fun h=>absurd k0 h⟩ (((sm.trans (same_upd hp1)).trans (same_upd hp2)).trans ((same_upd hp3).trans (same_upd hp4)))
  ·rw [if_neg k0]
   by_cases k1:c % 4=1
   ·rw [if_pos k1]
    refine ⟨line_le (by decide),fun p1 hp1=>?_⟩
    refine catT_do upd_same (same_upd hp1 _ _ e1') (by simp) (by simp) (by simp) fun p2 hp2=>?_
    walk_at "wp"
    refine ⟨_,SqT.of (same_upd hp2 _ _ (same_upd hp1 _ _ e2)),_,rfl,line_le (by decide),fun p3 hp3=>?_⟩
    refine catT_do (same_upd hp3 _ _ upd_same) upd_same (by simp) (by simp) (by simp) fun p4 hp4=>?_
    refine q p4 (3,⟨z1,1 + c / 4 / 4 % 9,z2,z3,[ch],c / 4 / 144 % 8⟩) _ (gd 3 (by decide)) upd_same ⟨fun h=>absurd h k0,fun _=>rfl,fun _ h=>absurd k1 h⟩ (((sm.trans (same_upd hp1)).trans (same_upd hp2)).trans ((same_upd hp3).trans (same_upd hp4)))
   ·rw [if_neg k1]
    have two:c % 2=0∨c % 2=1:=by omega
    refine ⟨line_le (by decide),fun p1 hp1=>?_⟩
    rcases two with h2 | h2
    ·rw [h2]
     refine ⟨_,SqT.of upd_same,_,rfl,line_le (by decide),fun p2 hp2=>?_⟩
     refine catT_do upd_same (same_upd hp2 _ _ (same_upd hp1 _ _ e1')) (by simp) (by simp) (by simp) fun p3 hp3=>?_
     refine catT_do upd_same (same_upd hp3 _ _ (same_upd hp2 _ _ (same_upd hp1 _ _ e2))) (by simp) (by simp) (by simp) fun p4 hp4=>?_
     exact q p4 (1,⟨z1,1 + c / 4 / 4 % 9,z2,z3,[ch],c / 4 / 144 % 8⟩) _ (gd 1 (by decide)) upd_same ⟨fun h=>absurd h k0,fun h=>absurd h k1,fun _ _=>.inl rfl⟩ (((sm.trans (same_upd hp1)).trans (same_upd hp2)).trans ((same_upd hp3).trans (same_upd hp4)))
    ·rw [h2]
     refine ⟨_,SqT.of upd_same,_,rfl,line_le (by decide),fun p2 hp2=>?_⟩
     refine catT_do upd_same (same_upd hp2 _ _ (same_upd hp1 _ _ e1')) (by simp) (by simp) (by simp) fun p3 hp3=>?_
     refine catT_do upd_same (same_upd hp3 _ _ (same_upd hp2 _ _ (same_upd hp1 _ _ e2))) (by simp) (by simp) (by simp) fun p4 hp4=>?_
     exact q p4 (2,⟨z1,1 + c / 4 / 4 % 9,z2,z3,[ch],c / 4 / 144 % 8⟩) _ (gd 2 (by decide)) upd_same ⟨fun h=>absurd h k0,fun h=>absurd h k1,fun _ _=>.inr rfl⟩ (((sm.trans (same_upd hp1)).trans (same_upd hp2)).trans ((same_upd hp3).trans (same_upd hp4)))
abbrev s_l_quarter:Stmt:=top 45
def sp_l_quarter (K:W.Frag):Sp:=fun vs H Q _=>∃ (a:Addr) (p:Pic) (r c:Nat),vs=[.ref a]∧SqL K H a (rowsV p)∧rect p r c∧0 < r∧r≤64∧c≤64∧GivesPic H (quarter p) Q
theorem sc_l_quarter:FnScope ["_law_rows","_law_last"] ["_law_rows"] (defScope s_l_quarter):=⟨rfl,rfl,rfl,by decide +kernel,rfl,by decide +kernel,by decide +kernel⟩
theorem ok_l_quarter {f:Addr} {fd:FuncData} (F:Fun K "_law_quarter" "_law_quarter" s_l_quarter f fd) (nb:NB mg):FnOk P w K mg base CX0 1 f fd ["_law_rows"] (sp_l_quarter K):=by
 have sc:=sc_l_quarter
 refine F.ok sc (fun vs H Q E h=>?_) (fun cdv A outer s H vs Q E hr h=>?_)
 ·obtain ⟨a,p,r,c,rfl,_⟩:=h;rfl
 ·obtain ⟨a,p,r,c,rfl,hS,hp,hr0,hr1,hc1,q⟩:=h
  refine ⟨_,(pss_cons (ps_set (i:=1) sc.nd rfl (Or.inr rfl) (pe_op op_sub (pe_callB call_lenL rfl nb.len bt_len (pa_cons (pv 0) pa_nil)) pe_int))
   (pss_one (ps_ret (pe_comp ["_law_i"] [0,1] rfl (CompOk.of (by kernel_rfl)) (by kernel_rfl) (pi_range1 rfl nb.range (pa_cons (pe_callB call_len_str rfl nb.len bt_len (pa_cons (pe_ix ix_list (pv 0) pe_int (fun _ _=>rfl)) pa_nil)) pa_nil))
    (fun _ _ _ _=>(pg_name (i:=0) (by show (["_law_i","_law_rows","_law_last"]:List Str).Nodup;decide +kernel) rfl (Or.inr rfl))) (fun _ _ _ _=>pif_nil) (fun _ _ _ _=>(pe_bmK (K:=K) rfl PySem.F.plainAttrs_str PySem.F.slot_str_join PySem.F.type_str_join (mt_joinK (K:=K) rfl) pe_str (pa_cons (pe_comp ["_law_j"] [1,2,0] rfl (CompOk.of (by kernel_rfl)) (by kernel_rfl) (pi_range1 rfl nb.range (pa_cons (pe_callB (call_lenLK (K:=K) rfl) rfl nb.len bt_len (pa_cons (pv 1) pa_nil)) pa_nil))
    (fun _ _ _ _=>(pg_name (i:=0) (by show (["_law_j","_law_rows","_law_last","_law_i"]:List Str).Nodup;decide +kernel) rfl (Or.inl rfl))) (fun _ _ _ _=>pif_nil) (fun _ _ _ _=>(pe_ix ix_str (pe_ix (ix_listK (K:=K) rfl) (pv 1) (pe_op op_sub (pv 2) (pv 0)) (fun _ _=>rfl)) (pv 3) (fun _ _=>rfl)))) pa_nil))))))),?_⟩
  have hl0:0 < p.length:=by rw [hp.1];exact hr0
  have hc0:(p[0]).length=c:=hp.2 _ (List.getElem_mem hl0)
  have hpl:p.length=r:=hp.1
  refine seq_cut fun N1 h1=>?_
  walk_at "wp"
  refine ⟨_,hS,h1 _ _ ?_⟩
  clear h1
  rw [rowsV_length]
  walk_at "wp"
  have h0:atI (rowsV p) 0=some (V.str (tx p[0])):=(show atI _ ((0:Nat):Int)=_ from atI_nat (rowsV_get hl0))
  refine ⟨_,hS,_,h0,_,rfl,by rw [tx_length];exact line_le (by omega),by rw [tx_length];omega,by rw [tx_length];omega,?_⟩
  rw [tx_length,hc0,Int.toNat_natCast]
  refine comp_range (lo:=0) (n:=c) (fun i acc σ H'=>Same H H'∧acc=rowsV ((List.range i).map (col p))∧i≤c∧∃ x,σ=[x,some (.ref a),some (.int ((p.length:Int) - 1))]) ⟨Same.refl _,rfl,Nat.zero_le _,_,rfl⟩ ?_ ?_ ?_ ?_
  ·rintro i acc σ H' ⟨_,rfl,_⟩
   rw [rowsV_length,List.length_map,List.length_range];exact line_big (by omega)
  ·rintro i acc σ H' ⟨_,_,h,_⟩
   exact h
  ·rintro i acc σ H' hi ⟨sm,rfl,_,y,rfl⟩
   walk_at "wp"
   have hS':=sm.seq hS
   have hpl2:((rowsV p).length:Int)=(p.length:Int):=by rw [rowsV_length]
   refine ⟨rfl,_,hS',by rw [hpl2];omega,by rw [hpl2];omega,?_⟩
   rw [hpl2,Int.toNat_natCast]
   refine comp_rangeF (n:=p.length) (f:=fun j=>some (V.str ⟨#[(p.reverse.getD j []).getD i 0]⟩)) (fun σ=>∃ x,σ=[x,some (.ref a),some (.int ((p.length:Int) - 1)),some (.int (i:Int))]) ⟨_,rfl⟩ (by omega) ?_ ?_
   ·rintro j hj σ H2 M1 M0 ⟨y,rfl⟩ sm2 k1 k0
    walk_at "wp"
    have ej:(p.length:Int) - 1 - (j:Int)=((p.length - 1 - j:Nat):Int):=by omega
    have hx:p.length - 1 - j < p.length:=by omega
    have erev:p.reverse.getD j []=p[p.length - 1 - j]:=by rw [List.getD_eq_getElem?_getD,List.getElem?_reverse hj,List.getElem?_eq_getElem hx];rfl
    have hrow:(p[p.length - 1 - j]).length=c:=hp.2 _ (List.getElem_mem hx)
    refine ⟨_,sm2.seq hS',V.str (tx p[p.length - 1 - j]),by rw [ej];exact atI_nat (rowsV_get hx),_,rfl,by rw [tx_length];exact line_le (by omega),(p[p.length - 1 - j]).getD i 0,?_,k1 _ _ _ (by rw [erev]) sm2 ⟨_,rfl⟩⟩
    refine atI_nat ?_
    rw [tx_list,List.getD_eq_getElem?_getD,List.getElem?_eq_getElem (by omega)]
    rfl
   ·intro H2 sm2 l hl
    rw [fm_some]
    have ec:(List.range p.length).map (fun j=>V.str ⟨#[(p.reverse.getD j []).getD i 0]⟩)=((col p i).map fun c=>(⟨#[c]⟩:Str)).map V.str:=by
     unfold col
     rw [List.map_map,List.map_map]
     apply List.ext_getElem?
     intro j
     rw [List.getElem?_map,List.getElem?_map]
     by_cases hj:j < p.length
     ·rw [List.getElem?_range hj,List.getElem?_eq_getElem (by rw [List.length_reverse];exact hj),Option.map_some,Option.map_some]
      show some (V.str ⟨#[(p.reverse.getD j []).getD i 0]⟩)=some (V.str ⟨#[(p.reverse[j]'(by rw [List.length_reverse];exact hj)).getD i 0]⟩)
      rw [List.getD_eq_getElem?_getD (l:=p.reverse),List.getElem?_eq_getElem (by rw [List.length_reverse];exact hj),Option.getD_some]
     ·rw [List.getElem?_eq_none (by rw [List.length_range];omega),List.getElem?_eq_none (by rw [List.length_reverse];omega)];rfl
    rw [ec]
    refine ⟨_,.inl (SqL.of upd_same),?_,(sm.trans sm2).trans (same_upd hl),?_,hi⟩
    ·rw [List.map_map]
     have e:((fun y:Str=>y.length) ∘ fun c=>(⟨#[c]⟩:Str))=fun _=>1:=by funext c;rfl
     have e0:(Str.ofString "").length=0:=rfl
     rw [e,List.map_const',List.sum_replicate_nat,List.length_map,e0]
     unfold col
     rw [List.length_map,List.length_reverse]
     omega
    ·rw [join_ones,List.range_succ,List.map_append]
     exact (rowsV_append _ _).symm
  ·rintro acc σ H' ⟨sm,rfl,_⟩ l hl
   refine q l _ (sm.free hl) ?_ (sm.trans (same_upd hl))
   rw [upd_same]
   unfold quarter
   rw [rect_head hp hr0]
abbrev s_l_turned:Stmt:=top 46
def sp_l_turned (K:W.Frag):Sp:=fun vs H Q _=>∃ (a:Addr) (p:Pic) (r c t:Nat),vs=[.ref a,.int (t:Int)]∧H a=some (.lst (rowsV p))∧rect p r c∧0 < r∧0 < c∧r≤64∧c≤64∧t < 8∧∀ l H',H' l=some (.lst (rowsV (turned p t)))→Same H H'→Q (.ref l) H'
theorem sc_l_turned:FnScope ["_law_rows","_law_t","_law_step"] ["_law_rows","_law_t"] (defScope s_l_turned):=⟨rfl,rfl,rfl,by decide +kernel,rfl,by decide +kernel,by decide +kernel⟩
theorem ok_l_turned {f:Addr} {fd:FuncData} (F:Fun K "_law_turned" "_law_turned" s_l_turned f fd) (nb:NB mg) (zyb:Cal P w K mg base CX0 1 "_law_quarter" ["_law_rows"] (sp_l_quarter K)):FnOk P w K mg base CX0 2 f fd ["_law_rows","_law_t"] (sp_l_turned K):=by
 have sc:=sc_l_turned
 refine F.ok sc (fun vs H Q E h=>?_) (fun cdv A outer s H vs Q E hr h=>?_)
 ·obtain ⟨a,p,r,c,t,rfl,_⟩:=h;rfl
 ·obtain ⟨a,p,r,c,t,rfl,hS,hp,hr0,hc0,hr1,hc1,ht,q⟩:=h
  refine ⟨_,(pss_cons (ps_if (pt_cmpR op_gt (pv 1) pe_int (nomark _))
   (pss_one (ps_setcomp (i:=0) ["_law_row"] [] sc.nd rfl (Or.inl rfl) rfl  rfl (CompOk.of (by kernel_rfl)) (by kernel_rfl) (pi_list (pv 0))
    (fun _ _ _ _=>(pg_name (i:=0) (by show (["_law_row"]:List Str).Nodup;decide +kernel) rfl (Or.inl rfl))) (fun _ _ _ _=>pif_nil) (fun _ _ _ _=>(pe_revS (pv 0) (pe_un un_neg pe_int)))))
   pss_nil)
   (pss_cons (ps_forw PassesOwn.never rfl (pi_range1 rfl nb.range (pa_cons (pe_op op_mod (pv 1) pe_int) pa_nil)) (pg_name (i:=2) sc.nd rfl (Or.inl rfl))
   (pss_one (ps_set (i:=0) sc.nd rfl (Or.inl rfl) (pe_cal zyb (hr.mono (by decide)) rfl pass0 (pa_cons (pv 0) pa_nil)))))
   (pss_one (ps_ret (pv 0))))),?_⟩
  refine seq_cut fun N2 h2=>?_
  have loop:∀ (l2:Addr) (p':Pic) (H2:Hp) (y:Option V),H2 l2=some (.lst (rowsV p'))→Same H H2→rect p' r c→turned p t=quarters (t % 4) p'→N2 [some (V.ref l2),some (V.int t),y] H2:=by
   intro l2 p' H2 y hH2 sm2 hp' et
   refine h2 _ _ ?_
   clear h2
   refine seq_cut fun N3 h3=>?_
   walk_at "wp"
   refine ⟨by omega,by omega,?_⟩
   have e4:((t:Int) % 4).toNat=t % 4:=by omega
   rw [e4]
   refine forw_range (lo:=0) (n:=t % 4) (fun i σ H3=>∃ (l3:Addr) (x:Option V),σ=[some (V.ref l3),some (V.int t),x]∧H3 l3=some (.lst (rowsV (quarters i p')))∧Same H H3) ⟨l2,_,rfl,hH2,sm2⟩ ?_ ?_
   ·rintro i σ H3 hi ⟨l3,x,rfl,h4,sm3⟩
    walk_at "wp"
    have hq:=rect_quarters i hp' hr0 hc0
    have gp2:∃ r' c',rect (quarters i p') r' c'∧0 < r'∧r'≤64∧c'≤64:=by
     by_cases hi2:i % 2=0
     ·rw [if_pos hi2,if_pos hi2] at hq;exact ⟨r,c,hq,hr0,hr1,hc1⟩
     ·rw [if_neg hi2,if_neg hi2] at hq;exact ⟨c,r,hq,hc0,hc1,hr1⟩
    obtain ⟨r',c',g3,g4,g5,g6⟩:=gp2
    refine ⟨l3,_,r',c',rfl,SqL.of h4,g3,g4,g5,g6,fun l4 H4 h8 h9 sm4=>?_⟩
    exact ⟨l4,rfl,by rw [← quarters_add 1 i p'];exact h9,sm3.trans sm4⟩
   ·rintro σ H3 ⟨l3,x,rfl,h4,sm3⟩
    refine h3 _ _ ?_
    walk_at "wp"
    exact q l3 H3 (by rw [et];exact h4) sm3
  walk_at "wp"
  have hpl:p.length=r:=hp.1
  split
  ·rename_i h4
   refine ⟨⟨_,SqL.of hS⟩,?_⟩
   refine comp_listF (as:=p) (emb:=fun x=>V.str (tx x)) (f:=fun x=>some (V.str (tx x.reverse))) (fun σ=>∃ x,σ=[x]) ⟨_,rfl⟩ (fun H' sm=>SqL.of (sm _ _ hS)) (by omega) ?_ ?_
   ·rintro i x hx σ H' M1 M0 ⟨y,rfl⟩ sm k1 k0
    walk_at "wp"
    have hxl:x.length=c:=hp.2 x (List.mem_of_getElem? hx)
    exact ⟨x,rfl,by omega,k1 _ _ _ rfl sm ⟨_,rfl⟩⟩
   ·intro H' sm l hl
    rw [fm_some]
    have em:p.map (fun x=>V.str (tx x.reverse))=rowsV (mirror p):=by unfold rowsV mirror;rw [List.map_map];rfl
    rw [em]
    refine loop l (mirror p) _ _ upd_same (sm.trans (same_upd hl)) (rect_mirror hp) ?_
    unfold turned
    rw [if_pos (by omega)]
  ·rename_i h4
   refine loop a p H _ hS (Same.refl _) hp ?_
   unfold turned
   rw [if_neg (by omega)]
theorem tx_add (r s:List Nat):tx r ++ tx s=tx (r ++ s):=by
 show (⟨_ ++ _⟩:Str)=⟨_⟩
 simp [tx]
abbrev s_l_put:Stmt:=top 49
def sp_l_put:Sp:=fun vs H Q _=>∃ (t lp:Addr) (r:Nat × RV) (as:List Addr) (ps:List Pic),vs=[.ref t,.ref lp]∧H t=some (.tup (rowV r))∧r.1 < 4∧0≤r.2.t∧r.2.t≤7∧PicsAt H lp as ps∧Fits r.1 ps ∧
 (∀ p,madeP r.1 r.2 ps=some p→∀ l H',H' l=some (.lst (rowsV p))→Same H H'→Q (.ref l) H')∧(madeP r.1 r.2 ps=none→∀ H',Same H H'→Q .non H')
theorem sc_l_put:FnScope ["_law_told","_law_pictures","_law_one","_law_other"] ["_law_told","_law_pictures"] (defScope s_l_put):=⟨rfl,rfl,rfl,by decide +kernel,rfl,by decide +kernel,by decide +kernel⟩
theorem ok_l_put {f:Addr} {fd:FuncData} (F:Fun K "_law_put" "_law_put" s_l_put f fd) (nb:NB mg) (zUb:Cal P w K mg base CX0 2 "_law_turned" ["_law_rows","_law_t"] (sp_l_turned K)):FnOk P w K mg base CX0 3 f fd ["_law_told","_law_pictures"] sp_l_put:=by
 have sc:=sc_l_put
 refine F.ok sc (fun vs H Q E h=>?_) (fun cdv A outer s H vs Q E hr h=>?_)
 ·obtain ⟨t,lp,r,as,ps,rfl,_⟩:=h;rfl
 ·obtain ⟨t,lp,⟨k,v⟩,as,ps,rfl,ht,hk,ht0,ht7,⟨hlp,hal,hat⟩,hfit,good,bad⟩:=h
  refine ⟨_,(pss_cons (ps_if (pt_cmpR op_eq (pe_ix ix_tup (pv 0) pe_int (fun _ _=>rfl)) pe_str (nomark _))
   (pss_one (ps_ret (pe_lst (pa_cons (pe_ix ix_tup (pv 0) pe_int (fun _ _=>rfl)) pa_nil))))
   pss_nil)
   (pss_cons (ps_if (pt_cmpR op_eq (pe_ix ix_tup (pv 0) pe_int (fun _ _=>rfl)) pe_str (nomark _))
   (pss_one (ps_ret (pe_cal zUb (hr.mono (by decide)) rfl pass0 (pa_cons (pe_ix ix_list (pv 1) pe_int (fun _ _=>rfl)) (pa_cons (pe_ix ix_tup (pv 0) pe_int (fun _ _=>rfl)) pa_nil)))))
   pss_nil)
   (pss_cons (ps_asg (pv 1) (pg_tupL (n:=2) rfl (pgs_cons (pg_name (i:=2) sc.nd rfl (Or.inr rfl)) (pgs_cons (pg_name (i:=3) sc.nd rfl (Or.inr rfl)) pgs_nil))))
   (pss_cons (ps_if (pt_cmpR op_eq (pe_ix ix_tup (pv 0) pe_int (fun _ _=>rfl)) pe_str (nomark _))
   (pss_cons (ps_if (PW.pt (pw_or (pt_cmpR op_ne (pe_callB call_lenL rfl nb.len bt_len (pa_cons (pv 2) pa_nil)) (pe_callB call_lenL rfl nb.len bt_len (pa_cons (pv 3) pa_nil)) (nomark _)) (pw_or1 (pt_cmpR op_gt (pe_op op_add (pe_callB call_len_str rfl nb.len bt_len (pa_cons (pe_ix ix_list (pv 2) pe_int (fun _ _=>rfl)) pa_nil)) (pe_callB call_len_str rfl nb.len bt_len (pa_cons (pe_ix ix_list (pv 3) pe_int (fun _ _=>rfl)) pa_nil))) pe_int (nomark _)))))
   (pss_one (ps_ret pe_non))
   pss_nil)
   (pss_one (ps_ret (pe_comp ["_law_k"] [2,3] rfl (CompOk.of (by kernel_rfl)) (by kernel_rfl) (pi_range1 rfl nb.range (pa_cons (pe_callB call_lenL rfl nb.len bt_len (pa_cons (pv 2) pa_nil)) pa_nil))
    (fun _ _ _ _=>(pg_name (i:=0) (by show (["_law_k","_law_one","_law_other"]:List Str).Nodup;decide +kernel) rfl (Or.inl rfl))) (fun _ _ _ _=>pif_nil) (fun _ _ _ _=>(pe_op op_add_str (pe_ix (ix_listK (K:=K) rfl) (pv 1) (pv 0) (fun _ _=>rfl)) (pe_ix (ix_listK (K:=K) rfl) (pv 2) (pv 0) (fun _ _=>rfl))))))))
   pss_nil)
   (pss_cons (ps_if (PW.pt (pw_or (pt_cmpR op_ne (pe_callB call_len_str rfl nb.len bt_len (pa_cons (pe_ix ix_list (pv 2) pe_int (fun _ _=>rfl)) pa_nil)) (pe_callB call_len_str rfl nb.len bt_len (pa_cons (pe_ix ix_list (pv 3) pe_int (fun _ _=>rfl)) pa_nil)) (nomark _)) (pw_or1 (pt_cmpR op_gt (pe_op op_add (pe_callB call_lenL rfl nb.len bt_len (pa_cons (pv 2) pa_nil)) (pe_callB call_lenL rfl nb.len bt_len (pa_cons (pv 3) pa_nil))) pe_int (nomark _)))))
   (pss_one (ps_ret pe_non))
   pss_nil)
   (pss_one (ps_ret (pe_op op_cat (pv 2) (pv 3))))))))),?_⟩
  have sq:=SqT.of (K:=K) ht
  have hfit:Fits k ps:=hfit
  have ht0:0≤v.t:=ht0
  have ht7:v.t≤7:=ht7
  walk_at "wp"
  cases hfit with
  | cell=>
   change SqT K H t [.str (Str.ofString "cell"),.str (tx v.n),.int v.c,.str (tx v.sg)] at sq
   refine ⟨_,sq,_,rfl,rfl,?_⟩
   rw [if_pos rfl]
   exact ⟨_,sq,_,rfl,line_le (by decide),fun p hp=>good [v.sg] rfl p _ (by rw [upd_same];rfl) (same_upd hp)⟩
  | @turn p r c hp=>
   obtain ⟨a1,rfl⟩:∃ a1,as=[a1]:=by match as,hal with | [a1],_=>exact ⟨a1,rfl⟩
   have e1:H a1=some (.lst (rowsV p)):=hat 0 (by simp) (by simp)
   change SqT K H t [.str (Str.ofString "turned"),.str (tx v.n),.int v.c,.str (tx v.o1),.int v.t] at sq
   refine ⟨_,sq,_,rfl,rfl,?_⟩
   rw [if_neg kn3]
   refine ⟨_,sq,_,rfl,rfl,?_⟩
   rw [if_pos rfl]
   have h0:atI ([V.ref a1]:List V) 0=some (V.ref a1):=rfl
   obtain ⟨tn,htn⟩:∃ tn:Nat,v.t=(tn:Int):=⟨v.t.toNat,by omega⟩
   refine ⟨_,SqL.of hlp,_,h0,_,sq,_,rfl,?_⟩
   have hpl:=hp.r0
   refine ⟨a1,p,r,c,tn,by rw [htn],e1,hp.rc,hp.r0,hp.c0,by have:=hp.r6;omega,by have:=hp.c6;omega,by omega,fun l H' hl sm=>good _ ?_ l H' hl sm⟩
   show some (turned p v.t.toNat)=some (turned p tn)
   rw [htn];rfl
  | @beside p q' r c r' c' hp hq=>
   obtain ⟨a1,a2,rfl⟩:∃ a1 a2,as=[a1,a2]:=by match as,hal with | [a1,a2],_=>exact ⟨a1,a2,rfl⟩
   have e1:H a1=some (.lst (rowsV p)):=hat 0 (by simp) (by simp)
   have e2:H a2=some (.lst (rowsV q')):=hat 1 (by simp) (by simp)
   change SqT K H t [.str (Str.ofString "beside"),.str (tx v.n),.int v.c,.str (tx v.o1),.str (tx v.o2)] at sq
   refine ⟨_,sq,_,rfl,rfl,?_⟩
   rw [if_neg kn1]
   refine ⟨_,sq,_,rfl,rfl,?_⟩
   rw [if_neg kn7]
   refine ⟨_,SqL.of hlp,rfl,_,_,rfl,_,_,rfl,rfl,_,sq,_,rfl,rfl,?_⟩
   rw [if_pos rfl]
   have hl1:p.length=r:=hp.rc.1
   have hl2:q'.length=r':=hq.rc.1
   have hh1:=rect_head hp.rc hp.r0
   have hh2:=rect_head hq.rc hq.r0
   have h1:((rowsV p).length:Int)=(r:Int):=by rw [rowsV_length,hl1]
   have h2:((rowsV q').length:Int)=(r':Int):=by rw [rowsV_length,hl2]
   have p0:0 < p.length:=by rw [hl1];exact hp.r0
   have q0:0 < q'.length:=by rw [hl2];exact hq.r0
   have c1:(p[0]).length=c:=hp.rc.2 _ (List.getElem_mem p0)
   have c2:(q'[0]).length=c':=hq.rc.2 _ (List.getElem_mem q0)
   have b1:=hp.r6;have b2:=hp.c6;have b3:=hq.r6;have b4:=hq.c6
   refine ⟨a1,rfl,_,SqL.of e1,a2,rfl,_,SqL.of e2,?_⟩
   rw [h1,h2]
   by_cases er:r=r'
   ·rw [if_neg (by omega)]
    have z1:atI (rowsV p) 0=some (V.str (tx p[0])):=(show atI _ ((0:Nat):Int)=_ from atI_nat (rowsV_get p0))
    have z2:atI (rowsV q') 0=some (V.str (tx q'[0])):=(show atI _ ((0:Nat):Int)=_ from atI_nat (rowsV_get q0))
    refine ⟨a1,rfl,_,SqL.of e1,_,z1,_,rfl,by rw [tx_length];exact line_le (by omega),a2,rfl,_,SqL.of e2,_,z2,_,rfl,by rw [tx_length];exact line_le (by omega),?_⟩
    rw [tx_length,tx_length,c1,c2]
    have mk:(p.length=q'.length∧(p.headD []).length + (q'.headD []).length≤6)↔c + c'≤6:=by rw [hl1,hl2,hh1,hh2];exact ⟨fun h=>h.2,fun h=>⟨er,h⟩⟩
    by_cases ec:6 < (c:Int) + (c':Int)
    ·rw [if_pos ec]
     refine bad ?_ H (Same.refl _)
     show (if _ then _ else _)=_
     rw [if_neg (fun h=>by have:=mk.mp h;omega)]
    ·rw [if_neg ec]
     refine ⟨a1,rfl,_,SqL.of e1,by rw [h1];omega,by rw [h1];omega,?_⟩
     rw [h1,Int.toNat_natCast]
     refine comp_rangeF (n:=r) (f:=fun k=>some (V.str (tx (p.getD k [] ++ q'.getD k [])))) (fun σ=>∃ x,σ=[x,some (.ref a1),some (.ref a2)]) ⟨_,rfl⟩ (by omega) ?_ ?_
     ·rintro k hk σ H2 M1 M0 ⟨y,rfl⟩ sm k1 k0
      walk_at "wp"
      have kp:k < p.length:=by omega
      have kq:k < q'.length:=by omega
      have g1:p.getD k []=p[k]:=by rw [List.getD_eq_getElem?_getD,List.getElem?_eq_getElem kp];rfl
      have g2:q'.getD k []=q'[k]:=by rw [List.getD_eq_getElem?_getD,List.getElem?_eq_getElem kq];rfl
      have w1:(p[k]).length=c:=hp.rc.2 _ (List.getElem_mem kp)
      have w2:(q'[k]).length=c':=hq.rc.2 _ (List.getElem_mem kq)
      refine ⟨_,SqL.of (sm _ _ e1),_,atI_nat (rowsV_get kp),_,SqL.of (sm _ _ e2),_,atI_nat (rowsV_get kq),_,rfl,_,rfl,by rw [tx_length,tx_length];exact line_le (by omega),?_⟩
      rw [tx_add]
      exact k1 _ _ _ (by rw [g1,g2]) sm ⟨_,rfl⟩
     ·intro H2 sm l hl
      rw [fm_some]
      refine good (put2 p q') ?_ l _ ?_ (sm.trans (same_upd hl))
      ·show (if _ then _ else _)=_
       rw [if_pos (mk.mpr (by omega))]
      ·rw [upd_same]
       congr 2
       unfold put2 rowsV
       rw [List.map_map]
       apply List.ext_getElem?
       intro k
       rw [List.getElem?_map,List.getElem?_map]
       by_cases hk:k < r
       ·have kp:k < p.length:=by omega
        have kq:k < q'.length:=by omega
        rw [List.getElem?_range hk,(show (p.zip q')[k]?=some (p[k],q'[k]) from List.getElem?_zip_eq_some.mpr ⟨List.getElem?_eq_getElem kp,List.getElem?_eq_getElem kq⟩),Option.map_some,Option.map_some,List.getD_eq_getElem?_getD,List.getD_eq_getElem?_getD,List.getElem?_eq_getElem kp,List.getElem?_eq_getElem kq]
        rfl
       ·rw [List.getElem?_eq_none (by rw [List.length_range];omega),List.getElem?_eq_none (by rw [List.length_zip];omega)];rfl
   ·rw [if_pos (by omega)]
    refine bad ?_ H (Same.refl _)
    show (if _ then _ else _)=_
    rw [if_neg (fun h=>er (by rw [← hl1,← hl2];exact h.1))]
  | @above p q' r c r' c' hp hq=>
   obtain ⟨a1,a2,rfl⟩:∃ a1 a2,as=[a1,a2]:=by match as,hal with | [a1,a2],_=>exact ⟨a1,a2,rfl⟩
   have e1:H a1=some (.lst (rowsV p)):=hat 0 (by simp) (by simp)
   have e2:H a2=some (.lst (rowsV q')):=hat 1 (by simp) (by simp)
   change SqT K H t [.str (Str.ofString "above"),.str (tx v.n),.int v.c,.str (tx v.o1),.str (tx v.o2)] at sq
   refine ⟨_,sq,_,rfl,rfl,?_⟩
   rw [if_neg kn2]
   refine ⟨_,sq,_,rfl,rfl,?_⟩
   rw [if_neg kn8]
   refine ⟨_,SqL.of hlp,rfl,_,_,rfl,_,_,rfl,rfl,_,sq,_,rfl,rfl,?_⟩
   rw [if_neg kn4]
   have hl1:p.length=r:=hp.rc.1
   have hl2:q'.length=r':=hq.rc.1
   have hh1:=rect_head hp.rc hp.r0
   have hh2:=rect_head hq.rc hq.r0
   have h1:((rowsV p).length:Int)=(r:Int):=by rw [rowsV_length,hl1]
   have h2:((rowsV q').length:Int)=(r':Int):=by rw [rowsV_length,hl2]
   have p0:0 < p.length:=by rw [hl1];exact hp.r0
   have q0:0 < q'.length:=by rw [hl2];exact hq.r0
   have c1:(p[0]).length=c:=hp.rc.2 _ (List.getElem_mem p0)
   have c2:(q'[0]).length=c':=hq.rc.2 _ (List.getElem_mem q0)
   have b1:=hp.r6;have b2:=hp.c6;have b3:=hq.r6;have b4:=hq.c6
   have z1:atI (rowsV p) 0=some (V.str (tx p[0])):=(show atI _ ((0:Nat):Int)=_ from atI_nat (rowsV_get p0))
   have z2:atI (rowsV q') 0=some (V.str (tx q'[0])):=(show atI _ ((0:Nat):Int)=_ from atI_nat (rowsV_get q0))
   have mk:((p.headD []).length=(q'.headD []).length∧p.length + q'.length≤6)↔c=c'∧r + r'≤6:=by rw [hl1,hl2,hh1,hh2]
   refine ⟨a1,rfl,_,SqL.of e1,_,z1,_,rfl,by rw [tx_length];exact line_le (by omega),a2,rfl,_,SqL.of e2,_,z2,_,rfl,by rw [tx_length];exact line_le (by omega),?_⟩
   rw [tx_length,tx_length,c1,c2]
   by_cases ec:c=c'
   ·rw [if_neg (by omega)]
    refine ⟨a1,rfl,_,SqL.of e1,a2,rfl,_,SqL.of e2,?_⟩
    rw [h1,h2]
    by_cases er:6 < (r:Int) + (r':Int)
    ·rw [if_pos er]
     refine bad ?_ H (Same.refl _)
     show (if _ then _ else _)=_
     rw [if_neg (fun h=>by have:=mk.mp h;omega)]
    ·rw [if_neg er]
     refine ⟨a1,rfl,a2,rfl,_,e1,_,e2,by rw [rowsV_length,rowsV_length];exact line_le (by omega),fun l hl=>good (p ++ q') ?_ l _ ?_ (same_upd hl)⟩
     ·show (if _ then _ else _)=_
      rw [if_pos (mk.mpr ⟨ec,by omega⟩)]
     ·rw [upd_same];unfold rowsV;rw [List.map_append]
   ·rw [if_pos (by omega)]
    refine bad ?_ H (Same.refl _)
    show (if _ then _ else _)=_
    rw [if_neg (fun h=>ec (mk.mp h).1)]
inductive Gr (rs:List (Nat × RV)):Dt→List Nat→Pic→Int→Nat→Prop
 | cell {n:Nat} {v:RV}:rs[n]?=some (0,v)→Gr rs (.tup [.int (n:Int)]) v.n [v.sg] v.c 1
 | turn {n:Nat} {v:RV} {d:Dt} {p:Pic} {c:Int} {k:Nat}:rs[n]?=some (3,v)→Gr rs d v.o1 p c k→Gr rs (.tup [.int (n:Int),d]) v.n (turned p v.t.toNat) (v.c + c) (k + 1)
 | pair {n kd:Nat} {v:RV} {d1 d2:Dt} {p1 p2 p:Pic} {c1 c2:Int} {k1 k2:Nat}:(kd=1∨kd=2)→rs[n]?=some (kd,v)→Gr rs d1 v.o1 p1 c1 k1→Gr rs d2 v.o2 p2 c2 k2→madeP kd v [p1,p2]=some p→Gr rs (.tup [.int (n:Int),d1,d2]) v.n p (v.c + (c1 + c2)) (max k1 k2 + 1)
theorem Gr.more {rs:List (Nat × RV)} (r:Nat × RV) {d:Dt} {nm:List Nat} {p:Pic} {c:Int} {k:Nat} (g:Gr rs d nm p c k):Gr (rs ++ [r]) d nm p c k:=by
 have up:∀ {n:Nat} {x:Nat × RV},rs[n]?=some x→(rs ++ [r])[n]?=some x:=fun {n x} e=>by rw [List.getElem?_append_left (List.getElem?_eq_some_iff.mp e).1];exact e
 induction g with
 | cell e=>exact .cell (up e)
 | turn e _ ih=>exact .turn (up e) ih
 | pair h e _ _ m ih1 ih2=>exact .pair h (up e) ih1 ih2 m
theorem put_pic6 {k:Nat} {v:RV} {p1 p2 p:Pic} {r c r' c':Nat} (hk:k=1∨k=2) (h1:Pic6 p1 r c) (h2:Pic6 p2 r' c') (m:madeP k v [p1,p2]=some p):∃ r c,Pic6 p r c:=by
 have e1:=rect_head h1.rc h1.r0
 have e2:=rect_head h2.rc h2.r0
 have l1:=h1.rc.1
 have l2:=h2.rc.1
 rcases hk with rfl | rfl
 ·have m':(if p1.length=p2.length∧(p1.headD []).length + (p2.headD []).length≤6 then some (put2 p1 p2) else none)=some p:=m
  by_cases c0:p1.length=p2.length∧(p1.headD []).length + (p2.headD []).length≤6
  ·rw [if_pos c0] at m'
   cases m'
   rw [l1,l2,e1,e2] at c0
   refine ⟨r,c + c',⟨?_,h1.r0,h1.r6,by have:=h1.c0;omega,c0.2⟩⟩
   refine ⟨by unfold put2;rw [List.length_map,List.length_zip,l1,l2];omega,fun x hx=>?_⟩
   unfold put2 at hx
   obtain ⟨y,hy,rfl⟩:=List.mem_map.mp hx
   have:=List.of_mem_zip hy
   rw [List.length_append,h1.rc.2 _ this.1,h2.rc.2 _ this.2]
  ·rw [if_neg c0] at m';cases m'
 ·have m':(if (p1.headD []).length=(p2.headD []).length∧p1.length + p2.length≤6 then some (p1 ++ p2) else none)=some p:=m
  by_cases c0:(p1.headD []).length=(p2.headD []).length∧p1.length + p2.length≤6
  ·rw [if_pos c0] at m'
   cases m'
   rw [l1,l2,e1,e2] at c0
   refine ⟨r + r',c,⟨⟨by rw [List.length_append,l1,l2],fun x hx=>?_⟩,by have:=h1.r0;omega,c0.2,h1.c0,h1.c6⟩⟩
   rcases List.mem_append.mp hx with h | h
   ·exact h1.rc.2 _ h
   ·rw [c0.1];exact h2.rc.2 _ h
  ·rw [if_neg c0] at m';cases m'
theorem turn_pic6 {p:Pic} {r c:Nat} (h:Pic6 p r c) (t:Nat):∃ r c,Pic6 (turned p t) r c:=by
 have hm:rect (if 4≤t then mirror p else p) r c:=by split;exact rect_mirror h.rc;exact h.rc
 have:=rect_quarters (t % 4) hm h.r0 h.c0
 unfold turned
 by_cases e:t % 4 % 2=0
 ·rw [if_pos e,if_pos e] at this;exact ⟨r,c,this,h.r0,h.r6,h.c0,h.c6⟩
 ·rw [if_neg e,if_neg e] at this;exact ⟨c,r,this,h.c0,h.c6,h.r0,h.r6⟩
theorem Gr.pic6 {rs:List (Nat × RV)} (hg:∀ r∈rs,GoodR r) {d:Dt} {nm:List Nat} {p:Pic} {c:Int} {k:Nat} (g:Gr rs d nm p c k):∃ r c,Pic6 p r c:=by
 induction g with
 | @cell n v e=>
  have:=signB_len (hg _ (List.mem_of_getElem? e)).good.sg
  exact ⟨1,1,⟨rfl,fun x hx=>by rw [List.mem_singleton.mp hx];exact this⟩,by decide,by decide,by decide,by decide⟩
 | turn e _ ih=>obtain ⟨r,c,h⟩:=ih;exact turn_pic6 h _
 | pair h e _ _ m ih1 ih2=>obtain ⟨r,c,h1⟩:=ih1;obtain ⟨r',c',h2⟩:=ih2;exact put_pic6 h h1 h2 m
structure SI where
 d:Dt
 nm:List Nat
 p:Pic
 c:Int
 m:Int
 k:Nat
def ItemAt (H:Hp) (a:Addr) (x:SI):Prop:=∃ vt lp,H a=some (.tup [vt,.str (tx x.nm),.ref lp,.int x.c,.int x.m,.int (x.k:Int)])∧TrAt H x.d vt∧H lp=some (.lst (rowsV x.p))∧x.p≠[]
theorem ItemAt.up {H H':Hp} {a:Addr} {x:SI} (h:ItemAt H a x) (s:Same H H'):ItemAt H' a x:=by
 obtain ⟨vt,lp,h1,h2,h3,h4⟩:=h
 exact ⟨vt,lp,s _ _ h1,h2.up (TupS.of s) _,s _ _ h3,h4⟩
theorem pic_ne {H:Hp} {l lp:Addr} {as:List Addr} {p:Pic} (h1:H l=some (.lst (as.map V.ref))) (h2:H lp=some (.lst (rowsV p))) (h3:p≠[]):lp≠l:=fun e=>by
 rw [e,h1] at h2
 have h4:=HO.lst.inj (Option.some.inj h2)
 cases p with
 | nil=>exact h3 rfl
 | cons r p=>
  cases as with
  | nil=>exact nomatch h4
  | cons a as=>have:=(List.cons.inj h4).1;cases this
theorem ItemAt.put {H:Hp} {l a:Addr} {as:List Addr} {o:HO} {x:SI} (h:ItemAt H a x) (hl:H l=some (.lst (as.map V.ref))):ItemAt (upd H l o) a x:=by
 obtain ⟨vt,lp,h1,h2,h3,h4⟩:=h
 refine ⟨vt,lp,?_,h2.up (TupS.put hl) _,?_,h4⟩
 ·rw [upd_ne (fun e=>by rw [e,hl] at h1;cases h1)];exact h1
 ·rw [upd_ne (pic_ne hl h3 h4)];exact h3
def StockIn (H:Hp) (as:List Addr) (xs:List SI):Prop:=as.length=xs.length∧∀ (i:Nat) a x,as[i]?=some a→xs[i]?=some x→ItemAt H a x
theorem StockIn.up {H H':Hp} {as:List Addr} {xs:List SI} (h:StockIn H as xs) (s:Same H H'):StockIn H' as xs:=⟨h.1,fun i a x e1 e2=>(h.2 i a x e1 e2).up s⟩
theorem StockIn.got {H:Hp} {as:List Addr} {xs:List SI} (h:StockIn H as xs) {i:Nat} (hi:i < xs.length):∃ a x,as[i]?=some a∧xs[i]?=some x∧ItemAt H a x:=by
 have h1:i < as.length:=by rw [h.1];exact hi
 exact ⟨as[i],xs[i],List.getElem?_eq_getElem h1,List.getElem?_eq_getElem hi,h.2 i _ _ (List.getElem?_eq_getElem h1) (List.getElem?_eq_getElem hi)⟩
def NextOk (r:Nat × RV) (ys:List SI):Prop:=(r.1=0∧ys=[])∨(r.1=3∧∃ x,ys=[x]∧r.2.o1=x.nm)∨((r.1=1∨r.1=2)∧∃ x y,ys=[x,y]∧r.2.o1=x.nm∧r.2.o2=y.nm∧madeP r.1 r.2 [x.p,y.p]≠none)
theorem nil_eqG {H:Hp} {a b:Addr} {xs:List V} {Q:VK} {neg:Bool} (ha:H a=some (.lst xs)) (hb:H b=some (.lst [])) (q:Q (.bl (xs.isEmpty != neg)) H):rEqD K neg (.ref a) (.ref b) H Q:=by
 cases xs with
 | nil=>
  refine .inl ⟨[],by unfold Dt.deps;omega,.inl ⟨?_,?_⟩,by simpa using q⟩
  ·unfold RdD;exact ⟨a,_,rfl,SqL.of ha,by unfold RdDs;rfl⟩
  ·unfold RdD;exact ⟨b,_,rfl,SqL.of hb,by unfold RdDs;rfl⟩
 | cons x xs=>exact .inr ⟨a,b,_,_,rfl,rfl,SqL.of ha,SqL.of hb,by simp,by simpa using q⟩
theorem atI_mj {α:Type} {xs:List α} {j:Nat} {v:α} (h:j < xs.length) (e:xs[xs.length - 1 - j]?=some v):atI xs (-1 - (j:Int))=some v:=by
 unfold atI ixN
 rw [if_neg (by omega),if_pos (by omega),Option.bind_some,show (-1 - (j:Int) + (xs.length:Int)).toNat=xs.length - 1 - j by omega]
 exact e
def kindS (k:Nat):Str:=if k=1 then "beside" else "above"
theorem same_no {H H':Hp} {a:Addr} (s:Same H H') (h:H' a=none):H a=none:=by
 cases e:H a with
 | none=>rfl
 | some o=>rw [s _ _ e] at h;cases h
abbrev s_l_next:Stmt:=top 52
def sp_l_next:Sp:=fun vs H Q _=>∃ (ls b:Addr) (c:Int) (as:List Addr) (xs:List SI) (p:Pic) (sg:List Nat),vs=[.ref ls,.int c,.ref b,.str (tx sg)]∧H ls=some (.lst (as.map V.ref))∧StockIn H as xs∧H b=some (.lst (rowsV p))∧p.length=4∧(∀ r∈p,nameB r=true)∧signsB sg=true∧(∀ x∈xs,x.nm∈p∧∃ r c,Pic6 x.p r c)∧xs.length≤1000 ∧
 ∀ tp t lb r bs ys H',H' tp=some (.tup [.ref t,.ref lb])→H' t=some (.tup (rowV r))→RowOf p sg r→H' lb=some (.lst (bs.map V.ref))→StockIn H' bs ys→(∀ y∈ys,y∈xs)→NextOk r ys→H lb=none→Same H H'→Q (.ref tp) H'
theorem sc_l_next:FnScope ["_law_stock","_law_cell_here","_law_names_here","_law_signs_here","_law_told","_law_rest","_law_one","_law_other","_law_words","_law_word","_law_rule"] ["_law_stock","_law_cell_here","_law_names_here","_law_signs_here"] (defScope s_l_next):=⟨rfl,rfl,rfl,by decide +kernel,rfl,by decide +kernel,by decide +kernel⟩
theorem ok_l_next {f:Addr} {fd:FuncData} (F:Fun K "_law_next" "_law_next" s_l_next f fd) (nb:NB mg) (zua:Cal P w K mg base CX0 1 "_law_drawn_rule" ["_law_cell_here","_law_names_here","_law_signs_here"] sp_l_drawn_rule) (zgb:Cal P w K mg base CX0 3 "_law_put" ["_law_told","_law_pictures"] sp_l_put):FnOk P w K mg base CX0 4 f fd ["_law_stock","_law_cell_here","_law_names_here","_law_signs_here"] sp_l_next:=by
 have sc:=sc_l_next
 refine F.ok sc (fun vs H Q E h=>?_) (fun cdv A outer s H vs Q E hr h=>?_)
 ·obtain ⟨ls,b,c,as,xs,p,sg,rfl,_⟩:=h;rfl
 ·obtain ⟨ls,b,c,as,xs,p,sg,rfl,hls,hst,hb,hp,hpn,hsg,hxs,hxl,q⟩:=h
  have hu:=hr.units
  refine ⟨_,(pss_cons (ps_set (i:=4) sc.nd rfl (Or.inl rfl) (pe_cal zua (hr.mono (by decide)) rfl pass0 (pa_cons (pe_op op_mul (pe_op op_fdivP (pv 1) pe_int) pe_int) (pa_cons (pv 2) (pa_cons (pv 3) pa_nil)))))
   (pss_cons (ps_if (PW.pt (pw_or (pt_cmpR (op_eqD hu) (pv 0) (pe_lst pa_nil) (nomark _)) (pw_or1 (pt_cmpR op_lt (pe_op op_mod (pv 1) pe_int) pe_int (nomark _)))))
   (pss_one (ps_ret (pe_tup (pa_cons (pv 4) (pa_cons (pe_lst pa_nil) pa_nil)))))
   pss_nil)
   (pss_cons (ps_set (i:=5) sc.nd rfl (Or.inl rfl) (pe_op op_fdivP (pv 1) pe_int))
   (pss_cons (ps_set (i:=6) sc.nd rfl (Or.inl rfl) (pe_ix ix_list (pv 0) (pe_op op_mod (pv 5) (pe_callB call_lenL rfl nb.len bt_len (pa_cons (pv 0) pa_nil))) (fun _ _=>rfl)))
   (pss_cons (ps_set (i:=7) sc.nd rfl (Or.inl rfl) (pe_ix ix_list (pv 0) (pe_op op_sub (pe_un un_neg pe_int) (pe_op op_mod (pe_op op_fdivP (pv 5) pe_int) (pe_callB call_lenL rfl nb.len bt_len (pa_cons (pv 0) pa_nil)))) (fun _ _=>rfl)))
   (pss_consV (ps_if (pt_cmpR op_lt (pe_op op_mod (pv 1) pe_int) pe_int (nomark _))
   (pss_one (ps_ret (pe_tup (pa_cons (pe_tup (pa_consS (pa_cons (pe_ix ix_tup (pv 4) pe_int (fun _ _=>rfl)) (pa_cons (pe_ix ix_tup (pv 4) pe_int (fun _ _=>rfl)) (pa_cons (pe_ix ix_tup (pv 6) pe_int (fun _ _=>rfl)) (pa_cons (pe_op op_mod (pe_op op_fdivP (pv 5) pe_int) pe_int) pa_nil)))))) (pa_cons (pe_lst (pa_cons (pv 6) pa_nil)) pa_nil)))))
   pss_nil)
   (wb_cons (ws_ixL (i:=8) sc.nd rfl (Or.inl rfl) (we_lst (wa_T (we_tup (wa_S (wa_S wa_nil))) (wa_T (we_tup (wa_S (wa_S wa_nil))) wa_nil))) (pe_op op_mod (pe_op op_fdivP (pv 5) pe_int) pe_int) (fun _ _=>rfl))
   (pss_cons (ps_forw PassesOwn.never rfl (pi_tup (pv 8)) (pg_name (i:=9) sc.nd rfl (Or.inl rfl))
   (pss_cons (ps_set (i:=10) sc.nd rfl (Or.inl rfl) (pe_tup (pa_cons (pv 9) (pa_cons (pe_ix ix_tup (pv 4) pe_int (fun _ _=>rfl)) (pa_cons (pe_ix ix_tup (pv 4) pe_int (fun _ _=>rfl)) (pa_cons (pe_ix ix_tup (pv 6) pe_int (fun _ _=>rfl)) (pa_cons (pe_ix ix_tup (pv 7) pe_int (fun _ _=>rfl)) pa_nil)))))))
   (pss_one (ps_if (pt_cmpR op_notN (pe_cal zgb (hr.mono (by decide)) rfl pass0 (pa_cons (pv 10) (pa_cons (pe_lst (pa_cons (pe_ix ix_tup (pv 6) pe_int (fun _ _=>rfl)) (pa_cons (pe_ix ix_tup (pv 7) pe_int (fun _ _=>rfl)) pa_nil))) pa_nil))) pe_non (nomark _))
   (pss_one (ps_ret (pe_tup (pa_cons (pv 10) (pa_cons (pe_lst (pa_cons (pv 6) (pa_cons (pv 7) pa_nil))) pa_nil)))))
   pss_nil))))
   (pss_one (ps_ret (pe_tup (pa_cons (pv 4) (pa_cons (pe_lst pa_nil) pa_nil))))))))))))),?_⟩
  refine seq_cut fun N1 h1=>?_
  walk_at "wp"
  refine ⟨_,b,p,sg,rfl,hb,hp,hpn,hsg,fun t r H1 hro ht hkind s1=>h1 _ _ ?_⟩
  clear h1
  have hk0:r.1=0:=hkind.1 (by omega)
  obtain ⟨rk,v⟩:=r
  cases hk0
  have sqt:SqT K H1 t [.str (Str.ofString "cell"),.str (tx v.n),.int v.c,.str (tx v.sg)]:=SqT.of ht
  have hls1:=s1 _ _ hls
  have hst1:=hst.up s1
  have cellQ:∀ H2,Same H1 H2→∀ lb,H2 lb=none→∀ tp,upd H2 lb (.lst []) tp=none→Q (.ref tp) (upd (upd H2 lb (.lst [])) tp (.tup [.ref t,.ref lb])):=fun H2 s2 lb hlb tp htp=>
   q tp t lb (0,v) [] [] _ upd_same (same_upd htp _ _ (same_upd hlb _ _ (s2 _ _ ht))) hro (same_upd htp _ _ upd_same) ⟨rfl,fun i a x e=>by simp at e⟩ (fun y hy=>nomatch hy) (.inl ⟨rfl,rfl⟩) (same_no (s1.trans s2) hlb) ((s1.trans s2).trans ((same_upd hlb).trans (same_upd htp)))
  refine seq_cut fun N1 h1=>?_
  walk_at "wp"
  refine ⟨Nat.zero_le _,fun pe hpe=>?_⟩
  refine nil_eqG (same_upd hpe _ _ hls1) upd_same ?_
  have s2:Same H1 (upd H1 pe (.lst [])):=same_upd hpe
  generalize upd H1 pe (.lst [])=H2 at s2 ⊢
  refine ⟨_,rfl,?_⟩
  by_cases hx0:xs=[]
  ·have ha0:as=[]:=List.length_eq_zero_iff.mp (by rw [hst.1,hx0];rfl)
   rw [if_pos (by rw [ha0];rfl)]
   exact ⟨Nat.zero_le _,fun lb hlb=>⟨line_le (by decide),fun tp htp=>cellQ H2 s2 lb hlb tp htp⟩⟩
  have hpos:0 < xs.length:=List.length_pos_iff.mpr hx0
  have hal:=hst.1
  rw [if_neg (by cases as with | nil=>rw [← hal] at hpos;exact absurd hpos (by decide) | cons a as=>simp)]
  by_cases h82:c % 8 < 2
  ·rw [if_pos h82]
   exact ⟨Nat.zero_le _,fun lb hlb=>⟨line_le (by decide),fun tp htp=>cellQ H2 s2 lb hlb tp htp⟩⟩
  rw [if_neg h82]
  refine h1 _ _ ?_
  clear h1
  have ls2:=s2 _ _ hls1
  have st2:=hst1.up s2
  have s02:=s1.trans s2
  have sq2:SqT K H2 t [.str (Str.ofString "cell"),.str (tx v.n),.int v.c,.str (tx v.sg)]:=s2.sqT sqt
  refine seq_cut fun N1 h1=>?_
  walk_at "wp"
  refine h1 _ _ ?_
  clear h1
  generalize c / 8=rest
  have hlen:((as.map V.ref).length:Int)=(xs.length:Int):=by rw [List.length_map,hal]
  refine seq_cut fun N1 h1=>?_
  walk_at "wp"
  obtain ⟨i,hi⟩:∃ i:Nat,rest % (xs.length:Int)=(i:Int):=⟨_,(Int.toNat_of_nonneg (Int.emod_nonneg _ (by omega))).symm⟩
  have hi2:i < xs.length:=by have:=Int.emod_lt_of_pos rest (b:=(xs.length:Int)) (by omega);omega
  obtain ⟨a1,x,ea1,ex,ia1⟩:=st2.got hi2
  refine ⟨_,SqL.of ls2,by rw [hlen];omega,_,SqL.of ls2,V.ref a1,by rw [hlen,hi];exact atI_nat (by rw [List.getElem?_map,ea1];rfl),h1 _ _ ?_⟩
  clear h1
  refine seq_cut fun N1 h1=>?_
  walk_at "wp"
  obtain ⟨j,hj⟩:∃ j:Nat,rest / 5 % (xs.length:Int)=(j:Int):=⟨_,(Int.toNat_of_nonneg (Int.emod_nonneg _ (by omega))).symm⟩
  have hj2:j < xs.length:=by have:=Int.emod_lt_of_pos (rest / 5) (b:=(xs.length:Int)) (by omega);omega
  have hj3:xs.length - 1 - j < xs.length:=by omega
  obtain ⟨a2,y,ea2,ey,ia2⟩:=st2.got hj3
  refine ⟨_,SqL.of ls2,by rw [hlen];omega,_,SqL.of ls2,V.ref a2,by rw [hlen,hj];exact atI_mj (by rw [List.length_map,hal];exact hj2) (by rw [List.getElem?_map,List.length_map,hal,ea2];rfl),h1 _ _ ?_⟩
  clear h1
  have xm:x∈xs:=List.mem_of_getElem? ex
  have ym:y∈xs:=List.mem_of_getElem? ey
  obtain ⟨xp,rx,cx,x6⟩:=hxs x xm
  obtain ⟨yp,ry,cy,y6⟩:=hxs y ym
  have rv:∀ (k:Nat) (o1 o2:List Nat) (tt:Int),k < 4→o1∈p→o2∈p→0≤tt→tt≤7→RowOf p sg (k,{ v with o1:=o1,o2:=o2,t:=tt }):=fun k o1 o2 tt hk h1 h2 h3 h4=>by
   have g:=hro.good.good
   have g':RV.good { v with o1:=o1,o2:=o2,t:=tt }:=⟨g.n,g.c1,g.c9,hpn _ h1,hpn _ h2,g.sg,h3,h4⟩
   exact ⟨⟨hk,g',g'.small⟩,hro.n,h1,h2,hro.sg⟩
  obtain ⟨vt1,lp1,ta1,tr1,pp1,pn1⟩:=id ia1
  obtain ⟨vt2,lp2,ta2,tr2,pp2,pn2⟩:=id ia2
  have q1:SqT K H2 a1 [vt1,.str (tx x.nm),.ref lp1,.int x.c,.int x.m,.int (x.k:Int)]:=SqT.of ta1
  have q2:SqT K H2 a2 [vt2,.str (tx y.nm),.ref lp2,.int y.c,.int y.m,.int (y.k:Int)]:=SqT.of ta2
  refine seq_cut fun N1 h1=>?_
  walk_at "wp"
  by_cases h84:c % 8 < 4
  ·rw [if_pos h84]
   have t0:0≤rest / 7 % 8:=Int.emod_nonneg _ (by omega)
   have t7:rest / 7 % 8 < 8:=Int.emod_lt_of_pos _ (by omega)
   refine ⟨_,sq2,_,rfl,_,sq2,_,rfl,_,q1,_,rfl,line_le (by decide),fun t3 ht3=>⟨line_le (by decide),fun lb hlb=>⟨line_le (by decide),fun tp htp=>?_⟩⟩⟩
   have sA:=(same_upd (o:=.tup [V.str (Str.ofString "turned"),V.str (tx v.n),V.int v.c,V.str (tx x.nm),V.int (rest / 7 % 8)]) ht3).trans ((same_upd (o:=.lst [V.ref a1]) hlb).trans (same_upd (o:=.tup [V.ref t3,V.ref lb]) htp))
   refine q tp t3 lb (3,{ v with o1:=x.nm,o2:=v.o2,t:=rest / 7 % 8 }) [a1] [x] _ upd_same (same_upd htp _ _ (same_upd hlb _ _ upd_same)) (rv 3 x.nm v.o2 _ (by decide) xp hro.o2 t0 (by omega)) (same_upd htp _ _ upd_same) ⟨rfl,fun i a z e1 e2=>?_⟩ (fun z hz=>by rw [List.mem_singleton.mp hz];exact xm) (.inr (.inl ⟨rfl,x,rfl,rfl⟩)) (same_no (s02.trans (same_upd ht3)) hlb) (s02.trans sA)
   match i,e1,e2 with
   | 0,e1,e2=>cases e1;cases e2;exact ia1.up sA
   | i + 1,e1,e2=>simp at e1
  ·rw [if_neg h84]
   refine h1 _ _ ?_
   clear h1
   refine seq_cut fun N1 h1=>?_
   walk_at "wp"
   refine ⟨line_le (by decide),fun w1 hw1=>⟨line_le (by decide),fun w2 hw2=>⟨line_le (by decide),fun w3 hw3=>?_⟩⟩⟩
   have sA:=(same_upd (o:=.tup [V.str (Str.ofString "beside"),V.str (Str.ofString "above")]) hw1).trans ((same_upd (o:=.tup [V.str (Str.ofString "above"),V.str (Str.ofString "beside")]) hw2).trans (same_upd (o:=.lst [V.ref w1,V.ref w2]) hw3))
   have f1:upd (upd (upd H2 w1 (.tup [V.str (Str.ofString "beside"),V.str (Str.ofString "above")])) w2 (.tup [V.str (Str.ofString "above"),V.str (Str.ofString "beside")])) w3 (.lst [V.ref w1,V.ref w2]) w1=some (.tup [V.str (Str.ofString "beside"),V.str (Str.ofString "above")]):=same_upd hw3 _ _ (same_upd hw2 _ _ upd_same)
   have f2:upd (upd (upd H2 w1 (.tup [V.str (Str.ofString "beside"),V.str (Str.ofString "above")])) w2 (.tup [V.str (Str.ofString "above"),V.str (Str.ofString "beside")])) w3 (.lst [V.ref w1,V.ref w2]) w2=some (.tup [V.str (Str.ofString "above"),V.str (Str.ofString "beside")]):=same_upd hw3 _ _ upd_same
   have f3:upd (upd (upd H2 w1 (.tup [V.str (Str.ofString "beside"),V.str (Str.ofString "above")])) w2 (.tup [V.str (Str.ofString "above"),V.str (Str.ofString "beside")])) w3 (.lst [V.ref w1,V.ref w2]) w3=some (.lst [V.ref w1,V.ref w2]):=upd_same
   generalize upd (upd (upd H2 w1 (.tup [V.str (Str.ofString "beside"),V.str (Str.ofString "above")])) w2 (.tup [V.str (Str.ofString "above"),V.str (Str.ofString "beside")])) w3 (.lst [V.ref w1,V.ref w2])=H3 at sA f1 f2 f3 ⊢
   obtain ⟨wx,ww,fw,aw,kw⟩:∃ (wx:Addr) (ww:List V),H3 wx=some (.tup ww)∧atI ([V.ref w1,V.ref w2]:List V) (rest / 11 % 2)=some (V.ref wx)∧∀ (i:Nat) z,ww[i]?=some z→∃ kd,(kd=1∨kd=2)∧z=V.str (kindS kd):=by
    have two:rest / 11 % 2=0∨rest / 11 % 2=1:=by omega
    rcases two with e | e
    ·refine ⟨w1,_,f1,by rw [e];rfl,fun i z hz=>?_⟩
     match i,hz with
     | 0,hz=>cases hz;exact ⟨1,.inl rfl,rfl⟩
     | 1,hz=>cases hz;exact ⟨2,.inr rfl,rfl⟩
     | i + 2,hz=>simp at hz
    ·refine ⟨w2,_,f2,by rw [e];rfl,fun i z hz=>?_⟩
     match i,hz with
     | 0,hz=>cases hz;exact ⟨2,.inr rfl,rfl⟩
     | 1,hz=>cases hz;exact ⟨1,.inl rfl,rfl⟩
     | i + 2,hz=>simp at hz
   refine ⟨_,SqL.of f3,_,aw,h1 _ _ ?_⟩
   clear h1
   refine seq_cut fun N1 h1=>?_
   walk_at "wp"
   refine ⟨⟨_,SqT.of fw⟩,?_⟩
   refine forw_tup (xs:=ww) (fun i σ H'=>Same H2 H'∧H' wx=some (.tup ww)∧∃ z1 z2,σ=[some (V.ref ls),some (V.int c),some (V.ref b),some (V.str (tx sg)),some (V.ref t),some (V.int rest),some (V.ref a1),some (V.ref a2),some (V.ref wx),z1,z2]) ⟨sA,fw,_,_,rfl⟩ ?_ ?_ ?_
   ·rintro i σ H' _ ⟨_,h,_⟩
    exact SqT.of h
   ·rintro i z σ H' hz ⟨sm,hwx,z1,z2,rfl⟩
    obtain ⟨kd,hkd,rfl⟩:=kw i z hz
    walk_at "wp"
    have st':=(s02.trans sm)
    have q1':SqT K H' a1 _:=sm.sqT q1
    have q2':SqT K H' a2 _:=sm.sqT q2
    refine ⟨_,sm.sqT sq2,_,rfl,_,sm.sqT sq2,_,rfl,_,q1',_,rfl,_,q2',_,rfl,line_le (by decide),fun rp hrp=>?_⟩
    have sR:=same_upd (o:=.tup [V.str (kindS kd),V.str (tx v.n),V.int v.c,V.str (tx x.nm),V.str (tx y.nm)]) hrp
    have hR:upd H' rp (.tup [V.str (kindS kd),V.str (tx v.n),V.int v.c,V.str (tx x.nm),V.str (tx y.nm)]) rp=some (.tup (rowV (kd,{ v with o1:=x.nm,o2:=y.nm,t:=0 }))):=by
     rw [upd_same]
     rcases hkd with rfl | rfl <;> rfl
    generalize upd H' rp (.tup [V.str (kindS kd),V.str (tx v.n),V.int v.c,V.str (tx x.nm),V.str (tx y.nm)])=H4 at sR hR ⊢
    have sm4:=sm.trans sR
    refine ⟨_,sR.sqT q1',_,rfl,_,sR.sqT q2',_,rfl,line_le (by decide),fun pl hpl=>?_⟩
    have sP:=same_upd (o:=.lst [V.ref lp1,V.ref lp2]) hpl
    have hP:upd H4 pl (.lst [V.ref lp1,V.ref lp2]) pl=some (.lst (([lp1,lp2]:List Addr).map V.ref)):=upd_same
    generalize upd H4 pl (.lst [V.ref lp1,V.ref lp2])=H5 at sP hP ⊢
    have sm5:=sm4.trans sP
    have kl:kd < 4:=by rcases hkd with rfl | rfl <;> decide
    refine ⟨rp,pl,(kd,{ v with o1:=x.nm,o2:=y.nm,t:=0 }),[lp1,lp2],[x.p,y.p],rfl,sP _ _ hR,kl,by show (0:Int)≤0;decide,by show (0:Int)≤7;decide,⟨hP,rfl,fun i h1 h2=>?_⟩,?_,fun pc hpc l H6 hl s6=>?_,fun _ H6 s6=>?_⟩
    ·match i,h1,h2 with
     | 0,_,_=>exact sm5 _ _ pp1
     | 1,_,_=>exact sm5 _ _ pp2
     | i + 2,h1,_=>simp at h1;omega
    ·rcases hkd with rfl | rfl
     ·exact .beside x6 y6
     ·exact .above x6 y6
    ·dsimp only
     rw [if_pos (fun e:V.ref l=V.non=>by cases e)]
     refine ⟨line_le (by decide),fun lb hlb=>⟨line_le (by decide),fun tp htp=>?_⟩⟩
     have sm6:=sm5.trans s6
     have sB:=(same_upd (o:=.lst [V.ref a1,V.ref a2]) hlb).trans (same_upd (o:=.tup [V.ref rp,V.ref lb]) htp)
     refine q tp rp lb (kd,{ v with o1:=x.nm,o2:=y.nm,t:=0 }) [a1,a2] [x,y] _ upd_same (sB _ _ (s6 _ _ (sP _ _ hR))) (rv kd x.nm y.nm 0 kl xp yp (by decide) (by decide)) (same_upd htp _ _ upd_same) ⟨rfl,fun i a z e1 e2=>?_⟩ (fun z hz=>?_) (.inr (.inr ⟨hkd,x,y,rfl,rfl,rfl,?_⟩)) (same_no (s02.trans sm6) hlb) ((s02.trans sm6).trans sB)
     ·match i,e1,e2 with
      | 0,e1,e2=>cases e1;cases e2;exact ia1.up (sm6.trans sB)
      | 1,e1,e2=>cases e1;cases e2;exact ia2.up (sm6.trans sB)
      | i + 2,e1,e2=>simp at e1
     ·rcases List.mem_cons.mp hz with rfl | hz
      ·exact xm
      ·rw [List.mem_singleton.mp hz];exact ym
     ·rw [hpc];exact fun e=>nomatch e
    ·dsimp only
     rw [if_neg (fun e:¬ V.non=V.non=>e rfl)]
     exact ⟨sm5.trans s6,s6 _ _ (sP _ _ (sR _ _ hwx))⟩
   ·rintro σ H' ⟨sm,hwx,z1,z2,rfl⟩
    refine h1 _ _ ?_
    walk_at "wp"
    exact ⟨Nat.zero_le _,fun lb hlb=>⟨line_le (by decide),fun tp htp=>cellQ H' (s2.trans sm) lb hlb tp htp⟩⟩
structure AsRow (r' r:Nat × RV):Prop where
 k:r'.1=r.1
 sg:r.1=0→r'.2.sg=r.2.sg
 o1:r.1≠0→r'.2.o1=r.2.o1
 o2:r.1=1∨r.1=2→r'.2.o2=r.2.o2
 t:r.1=3→r'.2.t=r.2.t
theorem AsRow.rfl' (r:Nat × RV):AsRow r r:=⟨rfl,fun _=>rfl,fun _=>rfl,fun _=>rfl,fun _=>rfl⟩
theorem tx_inj5 {a b:List Nat} (h:tx a=tx b):a=b:=by
 have:=congrArg (fun s:Str=>s.cps.toList) h
 simpa [tx] using this
def kd0 (k:Nat):Str:=match k with | 0=>"cell" | 1=>"beside" | 2=>"above" | _=>"turned"
theorem kd0_at (r:Nat × RV):atI (rowV r) 0=some (.str (kd0 r.1)):=by
 obtain ⟨k,v⟩:=r
 match k with
 | 0=>rfl
 | 1=>rfl
 | 2=>rfl
 | k + 3=>rfl
theorem kd0_inj {a b:Nat} (ha:a < 4) (hb:b < 4) (h:kd0 a=kd0 b):a=b:=by
 have:∀ a:Fin 4,∀ b:Fin 4,kd0 a.1=kd0 b.1→a=b:=by decide +kernel
 exact congrArg Fin.val (this ⟨a,ha⟩ ⟨b,hb⟩ h)
theorem rowV_flat (r:Nat × RV):(cutV (rowV r) (some 3) none).all flatV=true:=by
 obtain ⟨k,v⟩:=r
 match k with
 | 0=>rfl
 | 1=>rfl
 | 2=>rfl
 | k + 3=>rfl
theorem rowV_cut (r:Nat × RV):¬ (HT.sIx (rowV r).length 0 (some 3)=0∧HT.sIx (rowV r).length (rowV r).length none=(rowV r).length):=by
 obtain ⟨k,v⟩:=r
 match k with
 | 0=>exact fun h=>by cases h.1
 | 1=>exact fun h=>by cases h.1
 | 2=>exact fun h=>by cases h.1
 | k + 3=>exact fun h=>by cases h.1
theorem eqV_st5 {a b:Str} (h:eqV (.str a) (.str b)=true):a=b:=by
 have h':(a == b)=true:=h
 exact eq_of_beq h'
theorem eqV_int {a b:Int} (h:eqV (.int a) (.int b)=true):a=b:=by
 have h':(a == b)=true:=h
 exact eq_of_beq h'
theorem eqFs_two {x y x' y':V} (h:eqFs [x,y] [x',y']=true):eqV x x'=true∧eqV y y'=true:=by
 have h':(([0,1]:List Nat).all (fun j=>match ([x,y]:List V)[j]?,([x',y']:List V)[j]? with | some x,some y=>eqV x y | _,_=>true) && true)=true:=h
 simpa using h'
theorem eqFs_one {x x':V} (h:eqFs [x] [x']=true):eqV x x'=true:=by
 have h':(([0]:List Nat).all (fun j=>match ([x]:List V)[j]?,([x']:List V)[j]? with | some x,some y=>eqV x y | _,_=>true) && true)=true:=h
 simpa using h'
theorem asRow_of {r' r:Nat × RV} (h4':r'.1 < 4) (h4:r.1 < 4) (hk:V.str (kd0 r'.1)=V.str (kd0 r.1)) (he:eqFs (cutV (rowV r') (some 3) none) (cutV (rowV r) (some 3) none)=true):AsRow r' r:=by
 have e:=kd0_inj h4' h4 (V.str.inj hk)
 obtain ⟨k',v'⟩:=r'
 obtain ⟨k,v⟩:=r
 have e:k'=k:=e
 subst e
 have h4:k' < 4:=h4
 match k',h4 with
 | 0,_=>
  have:=tx_inj5 (eqV_st5 (eqFs_one (show eqFs [.str (tx v'.sg)] [.str (tx v.sg)]=true from he)))
  exact ⟨rfl,fun _=>this,fun h=>absurd rfl h,fun h=>(by rcases h with h | h <;> cases h),fun h=>(by cases h)⟩
 | 1,_=>
  have:=eqFs_two (show eqFs [.str (tx v'.o1),.str (tx v'.o2)] [.str (tx v.o1),.str (tx v.o2)]=true from he)
  exact ⟨rfl,fun h=>(by cases h),fun _=>tx_inj5 (eqV_st5 this.1),fun _=>tx_inj5 (eqV_st5 this.2),fun h=>(by cases h)⟩
 | 2,_=>
  have:=eqFs_two (show eqFs [.str (tx v'.o1),.str (tx v'.o2)] [.str (tx v.o1),.str (tx v.o2)]=true from he)
  exact ⟨rfl,fun h=>(by cases h),fun _=>tx_inj5 (eqV_st5 this.1),fun _=>tx_inj5 (eqV_st5 this.2),fun h=>(by cases h)⟩
 | 3,_=>
  have:=eqFs_two (show eqFs [.str (tx v'.o1),.int v'.t] [.str (tx v.o1),.int v.t]=true from he)
  exact ⟨rfl,fun h=>(by cases h),fun _=>tx_inj5 (eqV_st5 this.1),fun h=>(by rcases h with h | h <;> cases h),fun _=>eqV_int this.2⟩
abbrev s_l_number:Stmt:=top 53
def sp_l_number:Sp:=fun vs H Q _=>∃ (l t:Addr) (b:Bool) (ts:List Addr) (rs:List (Nat × RV)) (r:Nat × RV),vs=[.ref l,.ref t,.bl b]∧RowsAt H l ts rs∧(∀ x∈rs,x.1 < 4)∧H t=some (.tup (rowV r))∧r.1 < 4∧rs.length≤24 ∧
 (∀ (k:Nat) r' H',rs[k]?=some r'→AsRow r' r→Same H H'→Q (.int (k:Int)) H')∧(rs.length=24→∀ H',Same H H'→Q .non H') ∧
 (rs.length < 24→∀ H0,Same H H0→Q (.int (rs.length:Int)) (upd H0 l (.lst (ts.map V.ref ++ [V.ref t]))))
theorem sc_l_number:FnScope ["_law_rules","_law_told","_law_again","_law_k","_law_rule"] ["_law_rules","_law_told","_law_again"] (defScope s_l_number):=⟨rfl,rfl,rfl,by decide +kernel,rfl,by decide +kernel,by decide +kernel⟩
theorem ok_l_number {f:Addr} {fd:FuncData} (F:Fun K "_law_number" "_law_number" s_l_number f fd) (nb:NB mg):FnOk P w K mg base CX0 1 f fd ["_law_rules","_law_told","_law_again"] sp_l_number:=by
 have sc:=sc_l_number
 refine F.ok sc (fun vs H Q E h=>?_) (fun cdv A outer s H vs Q E hr h=>?_)
 ·obtain ⟨l,t,b,ts,rs,r,rfl,_⟩:=h;rfl
 ·obtain ⟨l,t,b,ts,rs,r,rfl,hrs,hk4,ht,hr4,hl24,q1,q2,q3⟩:=h
  have hu:=hr.units
  refine ⟨_,(pss_cons (ps_forw PassesOwn.never rfl (pi_enum rfl nb.enumerate (pa_cons (pv 0) pa_nil)) (pg_tup (n:=2) rfl (pgs_cons (pg_name (i:=3) sc.nd rfl (Or.inl rfl)) (pgs_cons (pg_name (i:=4) sc.nd rfl (Or.inl rfl)) pgs_nil)))
   (pss_one (ps_if (PW.pt (pw_and (pt_tb (pv 2) fun _=>rfl) (pw_and (pt_cmpR op_eq (pe_ix ix_tup (pv 4) pe_int (fun _ _=>rfl)) (pe_ix ix_tup (pv 1) pe_int (fun _ _=>rfl)) (nomark _)) (pw_and1 (pt_cmpR (op_eqF hu) (pe_slice sl_tup (pv 4) (po_some pe_int) po_none) (pe_slice sl_tup (pv 1) (po_some pe_int) po_none) (nomark _))))))
   (pss_one (ps_ret (pv 3)))
   pss_nil)))
   (pss_cons (ps_if (pt_cmpR op_eq (pe_callB call_lenL rfl nb.len bt_len (pa_cons (pv 0) pa_nil)) pe_int (nomark _))
   (pss_one (ps_ret pe_non))
   pss_nil)
   (pss_cons (ps_expr (pe_bm PySem.F.plainAttrs_list PySem.F.slot_list_append PySem.F.type_list_append mt_append (pv 0) (pa_cons (pv 1) pa_nil)))
   (pss_one (ps_ret (pe_op op_sub (pe_callB call_lenL rfl nb.len bt_len (pa_cons (pv 0) pa_nil)) pe_int)))))),?_⟩
  refine seq_cut fun N1 h1=>?_
  walk_at "wp"
  refine ⟨_,SqL.of hrs.1,?_⟩
  refine forw_enum (xs:=ts.map V.ref) (fun i σ H'=>Same H H'∧∃ z1 z2,σ=[some (V.ref l),some (V.ref t),some (V.bl b),z1,z2]) ⟨fun _ _ e=>e,_,_,rfl⟩ ?_ ?_ ?_
  ·rintro i σ H' _ ⟨sm,_⟩
   exact SqL.of (sm _ _ hrs.1)
  ·rintro i x σ H' T hx ⟨sm,z1,z2,rfl⟩ hT
   rw [List.getElem?_map] at hx
   obtain ⟨ti,hti,rfl⟩:=Option.map_eq_some_iff.mp hx
   obtain ⟨r',hr'⟩:∃ r',rs[i]?=some r':=⟨_,List.getElem?_eq_getElem (by have:=(List.getElem?_eq_some_iff.mp hti).1;have:=hrs.2.1;omega)⟩
   have hri:=sm _ _ (hrs.2.2 i ti r' hti hr')
   have sT:=same_upd (o:=.tup [V.int (i:Int),V.ref ti]) hT
   have hTT:upd H' T (.tup [V.int (i:Int),V.ref ti]) T=some (.tup [V.int (i:Int),V.ref ti]):=upd_same
   generalize upd H' T (.tup [V.int (i:Int),V.ref ti])=H1 at sT hTT ⊢
   walk_at "wp"
   have sm1:=sm.trans sT
   refine ⟨_,SqT.of hTT,rfl,_,_,rfl,_,_,rfl,rfl,?_⟩
   cases b with
   | false=>rw [if_neg (by decide)];exact sm1
   | true=>
    rw [if_pos rfl]
    refine ⟨ti,rfl,_,SqT.of (sT _ _ hri),_,kd0_at r',_,SqT.of (sm1 _ _ ht),_,kd0_at r,rfl,?_⟩
    by_cases hkk:V.str (kd0 r'.1)=V.str (kd0 r.1)
    ·rw [if_pos hkk]
     refine ⟨ti,rfl,_,SqT.of (sT _ _ hri),rowV_cut r',fun c1 hc1=>?_⟩
     have sC:=same_upd (o:=.tup (cutV (rowV r') (some 3) none)) hc1
     refine ⟨_,SqT.of (sC _ _ (sm1 _ _ ht)),rowV_cut r,fun c2 hc2=>?_⟩
     have sD:=same_upd (o:=.tup (cutV (rowV r) (some 3) none)) hc2
     refine ⟨_,SqT.of (sD _ _ upd_same),_,SqT.of upd_same,rowV_flat r',rowV_flat r,?_⟩
     have sE:=(sm1.trans sC).trans sD
     by_cases he:eqFs (cutV (rowV r') (some 3) none) (cutV (rowV r) (some 3) none)=true
     ·rw [if_pos he]
      exact q1 i r' _ hr' (asRow_of (hk4 _ (List.mem_of_getElem? hr')) hr4 hkk he) sE
     ·rw [if_neg he];exact sE
    ·rw [if_neg hkk];exact sm1
  ·rintro σ H' ⟨sm,z1,z2,rfl⟩
   refine h1 _ _ ?_
   walk_at "wp"
   have hl':=sm _ _ hrs.1
   have hln:(ts.map V.ref).length=rs.length:=by rw [List.length_map];exact hrs.2.1
   refine ⟨_,SqL.of hl',?_⟩
   rw [hln]
   by_cases h24:(rs.length:Int)=24
   ·rw [if_pos h24];exact q2 (by omega) _ sm
   ·rw [if_neg h24]
    refine ⟨.inl ⟨rfl,_,SqL.of hl'⟩,_,hl',?_,_,SqL.of upd_same,?_⟩
    ·rw [hln];exact line_big (by omega)
    ·have:=q3 (by omega) H' sm
     rw [List.length_append,hln]
     rw [show (((rs.length + [V.ref t].length:Nat):Int) - 1)=(rs.length:Int) by simp]
     exact this
theorem catT_gen5 {H:Hp} {a b:Addr} {xs ys:List V} {Q:VK} (ha:H a=some (.tup xs)) (hb:H b=some (.tup ys)) (hx:xs≠[]) (hz:xs.length + ys.length≤1000) (q:∀ p H',H' p=some (.tup (xs ++ ys))→Same H H'→Q (.ref p) H'):rCatT K (.ref a) (.ref b) H Q:=
 ⟨a,b,xs,ys,rfl,rfl,SqT.of ha,SqT.of hb,hx,line_le (by omega),fun e=>q a H (by rw [e,List.append_nil];exact ha) (Same.refl _),fun _ p hp=>q p _ upd_same (same_upd hp)⟩
structure GoodI (rs:List (Nat × RV)) (p:Pic) (x:SI):Prop where
 gr:Gr rs x.d x.nm x.p x.c x.k
 nm:x.nm∈p
 k1:x.k≤18
theorem GoodI.more {rs:List (Nat × RV)} {p:Pic} {x:SI} (r:Nat × RV) (h:GoodI rs p x):GoodI (rs ++ [r]) p x:=⟨h.gr.more r,h.nm,h.k1⟩
structure FI where
 a:Addr
 vt:V
 lp:Addr
 x:SI
def FI.vals (z:FI):List V:=[z.vt,.str (tx z.x.nm),.ref z.lp,.int z.x.c,.int z.x.m,.int (z.x.k:Int)]
def FI.at (H:Hp) (z:FI):Prop:=H z.a=some (.tup z.vals)∧TrAt H z.x.d z.vt∧H z.lp=some (.lst (rowsV z.x.p))∧z.x.p≠[]
theorem FI.at.up {H H':Hp} {z:FI} (h:z.at H) (s:Same H H'):z.at H':=⟨s _ _ h.1,h.2.1.up (TupS.of s) _,s _ _ h.2.2.1,h.2.2.2⟩
theorem StockIn.full {H:Hp}:∀ {as:List Addr} {xs:List SI},StockIn H as xs→∃ fs:List FI,as=fs.map FI.a∧xs=fs.map FI.x∧∀ z∈fs,z.at H
 | [],[],_=>⟨[],rfl,rfl,fun _ h=>nomatch h⟩
 | [],x :: xs,h=>absurd h.1 (by simp)
 | a :: as,[],h=>absurd h.1 (by simp)
 | a :: as,x :: xs,h=>by
  obtain ⟨fs,e1,e2,hf⟩:=StockIn.full (as:=as) (xs:=xs) ⟨by simpa using h.1,fun i a x e1 e2=>h.2 (i + 1) a x (by simpa using e1) (by simpa using e2)⟩
  obtain ⟨vt,lp,h1,h2,h3,h4⟩:=h.2 0 a x rfl rfl
  refine ⟨⟨a,vt,lp,x⟩ :: fs,by rw [e1];rfl,by rw [e2];rfl,fun z hz=>?_⟩
  rcases List.mem_cons.mp hz with rfl | hz
  ·exact ⟨h1,h2,h3,h4⟩
  ·exact hf z hz
theorem comp_items {H:Hp} {lb:Addr} {fs:List FI} {j:Int} {f:FI→V} {σ:St} {Q:List V→Hp→Prop} (h0:∃ z,σ=[z]) (hl:H lb=some (.lst ((fs.map FI.a).map V.ref))) (hf:∀ z∈fs,z.at H) (hn:fs.length≤1000) (hj:∀ z:FI,atI z.vals j=some (f z)) (q:∀ H',Same H H'→Q (fs.map f) H') :
  CompW (Itl K lb) (gName 0) tNoIf (tOp (rIxT K) (tVar 0) (tC (V.int j))) σ H Q:=by
 refine comp_listF (as:=fs) (emb:=fun z=>V.ref z.a) (f:=fun z=>some (f z)) (fun σ=>∃ z,σ=[z]) h0 (fun H' s=>?_) (by omega) ?_ ?_
 ·have:=s _ _ hl
  rw [List.map_map] at this
  exact SqL.of this
 ·rintro i z hz σ H' N1 N0 ⟨z0,rfl⟩ s k1 _
  walk_at "wp"
  exact ⟨_,SqT.of (s _ _ (hf z (List.mem_of_getElem? hz)).1),_,hj z,k1 _ _ _ rfl s ⟨_,rfl⟩⟩
 ·intro H' s
  rw [fm_all fs (fun z=>some (f z)) (g:=f) (fun _ _=>rfl)]
  exact q H' s
theorem FI.at.put {H:Hp} {l:Addr} {as:List Addr} {o:HO} {z:FI} (h:z.at H) (hl:H l=some (.lst (as.map V.ref))):z.at (upd H l o):=by
 obtain ⟨h1,h2,h3,h4⟩:=h
 refine ⟨?_,h2.up (TupS.put hl) _,?_,h4⟩
 ·rw [upd_ne (fun e=>by rw [e,hl] at h1;cases h1)];exact h1
 ·rw [upd_ne (pic_ne hl h3 h4)];exact h3
theorem next_fits {r:Nat × RV} {ys:List SI} (h:NextOk r ys) (h6:∀ y∈ys,∃ r c,Pic6 y.p r c):Fits r.1 (ys.map SI.p)∧madeP r.1 r.2 (ys.map SI.p)≠none:=by
 obtain ⟨k,v⟩:=r
 rcases h with ⟨e,rfl⟩ | ⟨e,x,rfl,_⟩ | ⟨e,x,y,rfl,_,_,hm⟩
 ·have e:k=0:=e
  subst e
  exact ⟨.cell,fun h=>nomatch h⟩
 ·have e:k=3:=e
  subst e
  obtain ⟨r,c,h⟩:=h6 x (by simp)
  exact ⟨.turn h,fun h=>nomatch h⟩
 ·obtain ⟨r,c,h⟩:=h6 x (by simp)
  obtain ⟨r',c',h'⟩:=h6 y (by simp)
  have e:k=1∨k=2:=e
  rcases e with rfl | rfl
  ·exact ⟨.beside h h',hm⟩
  ·exact ⟨.above h h',hm⟩
theorem next_gr {rs:List (Nat × RV)} {r r':Nat × RV} {n:Nat} {ys:List SI} {M:Int} {pc:Pic} (hn:rs[n]?=some r') (ar:AsRow r' r) (nx:NextOk r ys) (gr:∀ y∈ys,Gr rs y.d y.nm y.p y.c y.k) (mp:madeP r.1 r.2 (ys.map SI.p)=some pc)
  (hM:(ys.map (fun y=>(y.k:Int))=[]∧M=0)∨(M∈ys.map (fun y=>(y.k:Int))∧∀ a∈ys.map (fun y=>(y.k:Int)),a≤M)):Gr rs (.tup (.int (n:Int) :: ys.map SI.d)) r'.2.n pc (r'.2.c + (ys.map SI.c).sum) (M.toNat + 1)∧0≤M:=by
 obtain ⟨k',v'⟩:=r'
 obtain ⟨k,v⟩:=r
 have ek:k'=k:=ar.k
 subst ek
 rcases nx with ⟨e,rfl⟩ | ⟨e,x,rfl,ho⟩ | ⟨e,x,y,rfl,ho1,ho2,_⟩
 ·have e:k'=0:=e
  subst e
  rcases hM with ⟨_,rfl⟩ | ⟨h,_⟩
  ·refine ⟨?_,by decide⟩
   have e2:v'.sg=v.sg:=ar.sg rfl
   have e3:some [v.sg]=some pc:=mp
   cases e3
   rw [← e2]
   show Gr rs (.tup [.int (n:Int)]) v'.n [v'.sg] (v'.c + 0) 1
   rw [Int.add_zero]
   exact .cell hn
  ·exact nomatch h
 ·have e:k'=3:=e
  subst e
  rcases hM with ⟨h,_⟩ | ⟨h,_⟩
  ·exact nomatch h
  ·have h:M=(x.k:Int):=List.mem_singleton.mp h
   subst h
   refine ⟨?_,by omega⟩
   have e2:v'.o1=v.o1:=ar.o1 (fun e:3=0=>by cases e)
   have e4:v'.t=v.t:=ar.t rfl
   have e3:some (turned x.p v.t.toNat)=some pc:=mp
   cases e3
   rw [← e4]
   show Gr rs (.tup [.int (n:Int),x.d]) v'.n (turned x.p v'.t.toNat) (v'.c + (x.c + 0)) (((x.k:Int)).toNat + 1)
   rw [Int.add_zero,Int.toNat_natCast]
   have g:=gr x (by simp)
   rw [show x.nm=v'.o1 from (e2.trans ho).symm] at g
   exact .turn hn g
 ·have e:k'=1∨k'=2:=e
  have g1:=gr x (by simp)
  have g2:=gr y (by simp)
  have e1:v'.o1=v.o1:=ar.o1 (fun e':k'=0=>by omega)
  have e2:v'.o2=v.o2:=ar.o2 e
  rw [show x.nm=v'.o1 from (e1.trans ho1).symm] at g1
  rw [show y.nm=v'.o2 from (e2.trans ho2).symm] at g2
  have mp':madeP k' v' [x.p,y.p]=some pc:=by rcases e with rfl | rfl <;> exact mp
  rcases hM with ⟨h,_⟩ | ⟨h,hm⟩
  ·exact nomatch h
  ·have h1:=hm (x.k:Int) (by simp)
   have h2:=hm (y.k:Int) (by simp)
   have h3:M=(x.k:Int)∨M=(y.k:Int):=by simpa using h
   have h4:M.toNat=max x.k y.k:=by omega
   refine ⟨?_,by omega⟩
   rw [h4]
   show Gr rs (.tup [.int (n:Int),x.d,y.d]) v'.n pc (v'.c + (x.c + (y.c + 0))) (max x.k y.k + 1)
   rw [Int.add_zero]
   exact .pair e hn g1 g2 mp'
theorem items_tr {H:Hp}:∀ {fs:List FI},(∀ z∈fs,z.at H)→TrAts H ((fs.map FI.x).map SI.d) (fs.map FI.vt)
 | [],_=>TrAts.nil
 | z :: fs,h=>TrAts.cons (h z (by simp)).2.1 (items_tr fun y hy=>h y (by simp [hy]))
theorem fits_pic6 {k:Nat} {v:RV} {ps:List Pic} {pc:Pic} (h:Fits k ps) (m:madeP k v ps=some pc) (g:signB v.sg=true):∃ r c,Pic6 pc r c:=by
 cases h with
 | cell=>
  cases (show some [v.sg]=some pc from m)
  have:=signB_len g
  exact ⟨1,1,⟨rfl,fun x hx=>by rw [List.mem_singleton.mp hx];exact this⟩,by decide,by decide,by decide,by decide⟩
 | beside h1 h2=>exact put_pic6 (.inl rfl) h1 h2 m
 | above h1 h2=>exact put_pic6 (.inr rfl) h1 h2 m
 | @turn p _ _ h=>cases (show some (turned p v.t.toNat)=some pc from m);exact turn_pic6 h _
theorem ite_cut {c:Prop} [Decidable c] {A B:Prop} (hA:c→A) (hB:¬ c→B):if c then A else B:=by
 by_cases h:c
 ·rw [if_pos h];exact hA h
 ·rw [if_neg h];exact hB h
def Kp (H:Hp) (lr:Addr) (H':Hp):Prop:=∃ H0,Same H H0∧(H'=H0∨∃ o,H'=upd H0 lr o)
theorem Kp.ne {H H':Hp} {lr a:Addr} {o:HO} (k:Kp H lr H') (h:H a=some o) (e:a≠lr):H' a=some o:=by
 obtain ⟨H0,s,rfl | ⟨o',rfl⟩⟩:=k
 ·exact s _ _ h
 ·rw [upd_ne e];exact s _ _ h
theorem Kp.fi {H H':Hp} {lr:Addr} {as:List Addr} {z:FI} (k:Kp H lr H') (hl:H lr=some (.lst (as.map V.ref))) (h:z.at H):z.at H':=by
 obtain ⟨H0,s,rfl | ⟨o',rfl⟩⟩:=k
 ·exact h.up s
 ·exact (h.up s).put (s _ _ hl)
theorem Kp.st {H H':Hp} {lr:Addr} {as:List Addr} {bs:List Addr} {xs:List SI} (k:Kp H lr H') (hl:H lr=some (.lst (as.map V.ref))) (h:StockIn H bs xs):StockIn H' bs xs:=by
 obtain ⟨H0,s,rfl | ⟨o',rfl⟩⟩:=k
 ·exact h.up s
 ·exact ⟨h.1,fun i a x e1 e2=>((h.2 i a x e1 e2).up s).put (s _ _ hl)⟩
theorem Kp.same {G H H':Hp} {lr:Addr} (k:Kp H lr H') (s0:Same G H) (n:G lr=none):Same G H':=by
 obtain ⟨H0,s,rfl | ⟨o',rfl⟩⟩:=k
 ·exact s0.trans s
 ·exact same_upd2 (s0.trans s) n
structure NumAt (p:Pic) (sg:List Nat) (lr:Addr) (r r':Nat × RV) (n:Nat) (rs:List (Nat × RV)) (ts':List Addr) (rs':List (Nat × RV)) (H8 H9:Hp):Prop where
 rows:RowsAt H9 lr ts' rs'
 at':rs'[n]?=some r'
 as':AsRow r' r
 ro:∀ r∈rs',RowOf p sg r
 len:rs'.length≤24
 le1:rs'.length≤rs.length + 1
 up:∀ {d nm p c k},Gr rs d nm p c k→Gr rs' d nm p c k
 kp:Kp H8 lr H9
theorem number_do {p:Pic} {sg:List Nat} {H8:Hp} {lr t:Addr} {b:Bool} {ts:List Addr} {rs:List (Nat × RV)} {r:Nat × RV} {Q:VK} {E:XK} (R:RowsAt H8 lr ts rs) (hro:∀ r∈rs,RowOf p sg r) (ht:H8 t=some (.tup (rowV r))) (hr:RowOf p sg r) (h24:rs.length≤24)
  (q1:∀ (n:Nat) r' ts' rs' H9,NumAt p sg lr r r' n rs ts' rs' H8 H9→Q (.int (n:Int)) H9) (q2:rs.length=24→∀ H9,Same H8 H9→Q .non H9):sp_l_number [.ref lr,.ref t,.bl b] H8 Q E:=by
 refine ⟨lr,t,b,ts,rs,r,rfl,R,fun x hx=>(hro x hx).good.k4,ht,hr.good.k4,h24,fun k r' H' hk har s=>q1 k r' ts rs H' ⟨R.up s,hk,har,hro,h24,by omega,fun h=>h,H',s,.inl rfl⟩,q2,fun hlt H0 s=>q1 rs.length r (ts ++ [t]) (rs ++ [r]) _ ⟨(R.up s).app (s _ _ ht),by simp,AsRow.rfl' r,fun x hx=>?_,by simp;omega,by simp,fun h=>h.more r,H0,s,.inr ⟨_,rfl⟩⟩⟩
 rcases List.mem_append.mp hx with h | h
 ·exact hro x h
 ·rw [List.mem_singleton.mp h];exact hr
theorem rowV_2 (r:Nat × RV):atI (rowV r) 2=some (.int r.2.c):=by
 obtain ⟨k,v⟩:=r
 match k with
 | 0=>rfl
 | 1=>rfl
 | 2=>rfl
 | k + 3=>rfl
theorem rowV_1 (r:Nat × RV):atI (rowV r) 1=some (.str (tx r.2.n)):=by
 obtain ⟨k,v⟩:=r
 match k with
 | 0=>rfl
 | 1=>rfl
 | 2=>rfl
 | k + 3=>rfl
theorem RowsAt.keep {H:Hp} {l m:Addr} {ts:List Addr} {rs:List (Nat × RV)} {us:List V} {o:HO} (h:RowsAt H l ts rs) (hm:H m=some (.lst us)) (e:l≠m):RowsAt (upd H m o) l ts rs:=by
 obtain ⟨h1,h2,h3⟩:=h
 refine ⟨by rw [upd_ne e];exact h1,h2,fun i t r e1 e2=>?_⟩
 have h4:=h3 i t r e1 e2
 rw [upd_ne (fun e=>by rw [e,hm] at h4;cases h4)]
 exact h4
theorem StockIn.add {H:Hp} {l np:Addr} {as:List Addr} {xs:List SI} {x:SI} {o:HO} {bs:List Addr} (h:StockIn H as xs) (hx:ItemAt H np x) (hl:H l=some (.lst (bs.map V.ref))):StockIn (upd H l o) (as ++ [np]) (xs ++ [x]):=by
 refine ⟨by simp [h.1],fun i a y e1 e2=>?_⟩
 by_cases hi:i < as.length
 ·rw [List.getElem?_append_left hi] at e1
  rw [List.getElem?_append_left (by rw [← h.1];exact hi)] at e2
  exact (h.2 i a y e1 e2).put hl
 ·rw [List.getElem?_append_right (by omega)] at e1
  rw [List.getElem?_append_right (by rw [← h.1];omega),← h.1] at e2
  cases hj:i - as.length with
  | zero=>rw [hj] at e1 e2;cases e1;cases e2;exact hx.put hl
  | succ j=>rw [hj] at e1;simp at e1
def GInv (H:Hp) (p:Pic) (sg:List Nat) (lr ls:Addr) (n i:Nat) (H':Hp):Prop:=Same H H'∧(∃ ts rs,RowsAt H' lr ts rs∧(∀ r∈rs,RowOf p sg r)∧rs.length≤24∧∃ as xs,H' ls=some (.lst (as.map V.ref))∧StockIn H' as xs∧(∀ x∈xs,GoodI rs p x)∧(1≤i→xs≠[])∧(i=0→rs=[])∧xs.length≤i∧rs.length≤i)∧i≤n
abbrev s_l_grown:Stmt:=top 54
def sp_l_grown:Sp:=fun vs H Q _=>∃ (lc b:Addr) (cells:List Int) (p:Pic) (sg:List Nat) (most:Int),vs=[.ref lc,.ref b,.str (tx sg),.int most]∧H lc=some (.lst (cells.map V.int))∧1≤cells.length∧cells.length≤100∧1≤most∧H b=some (.lst (rowsV p))∧p.length=4∧(∀ r∈p,nameB r=true)∧signsB sg=true ∧
 ∀ tp lr ls ts rs as xs H',H' tp=some (.tup [.ref lr,.ref ls])→RowsAt H' lr ts rs→(∀ r∈rs,RowOf p sg r)→rs.length≤24→rs.length≤cells.length→H' ls=some (.lst (as.map V.ref))→StockIn H' as xs→(∀ x∈xs,GoodI rs p x)→xs≠[]→xs.length≤100→lr≠ls→H lr=none→H ls=none→Same H H'→Q (.ref tp) H'
theorem sc_l_grown:FnScope ["_law_cells","_law_names_here","_law_signs_here","_law_most","_law_rules","_law_stock","_law_cell_here","_law_told","_law_below","_law_picture","_law_many","_law_deep","_law_number_here","_law_tree","_law_cost"] ["_law_cells","_law_names_here","_law_signs_here","_law_most"] (defScope s_l_grown):=⟨rfl,rfl,rfl,by decide +kernel,rfl,by decide +kernel,by decide +kernel⟩
theorem ok_l_grown {f:Addr} {fd:FuncData} (F:Fun K "_law_grown" "_law_grown" s_l_grown f fd) (nb:NB mg) (nbsum:mg "sum" = none) (zod:Cal P w K mg base CX0 4 "_law_next" ["_law_stock","_law_cell_here","_law_names_here","_law_signs_here"] sp_l_next) (zgb:Cal P w K mg base CX0 3 "_law_put" ["_law_told","_law_pictures"] sp_l_put) (zVb:Cal P w K mg base CX0 1 "_law_number" ["_law_rules","_law_told","_law_again"] sp_l_number):FnOk P w K mg base CX0 5 f fd ["_law_cells","_law_names_here","_law_signs_here","_law_most"] sp_l_grown:=by
 have sc:=sc_l_grown
 refine F.ok sc (fun vs H Q E h=>?_) (fun cdv A outer s H vs Q E hr h=>?_)
 ·obtain ⟨lc,b,cells,p,sg,most,rfl,_⟩:=h;rfl
 ·obtain ⟨lc,b,cells,p,sg,most,rfl,hlc,hc1,hc2,hm,hb,hp,hpn,hsg,q⟩:=h
  have hu:=hr.units
  refine ⟨_,(pss_cons (ps_set (i:=4) sc.nd rfl (Or.inl rfl) (pe_lst pa_nil))
   (pss_cons (ps_set (i:=5) sc.nd rfl (Or.inl rfl) (pe_lst pa_nil))
   (pss_cons (ps_forw PassesOwn.never rfl (pi_list (pv 0)) (pg_name (i:=6) sc.nd rfl (Or.inl rfl))
   (pss_cons (ps_asg (pe_cal zod (hr.mono (by decide)) rfl pass0 (pa_cons (pv 5) (pa_cons (pv 6) (pa_cons (pv 1) (pa_cons (pv 2) pa_nil))))) (pg_tup (n:=2) rfl (pgs_cons (pg_name (i:=7) sc.nd rfl (Or.inl rfl)) (pgs_cons (pg_name (i:=8) sc.nd rfl (Or.inl rfl)) pgs_nil))))
   (pss_cons (ps_set (i:=9) sc.nd rfl (Or.inl rfl) (pe_cal zgb (hr.mono (by decide)) rfl pass0 (pa_cons (pv 7) (pa_cons (pe_comp ["_law_one"] [] rfl (CompOk.of (by kernel_rfl)) (by kernel_rfl) (pi_list (pv 8))
    (fun _ _ _ _=>(pg_name (i:=0) (by show (["_law_one"]:List Str).Nodup;decide +kernel) rfl (Or.inl rfl))) (fun _ _ _ _=>pif_nil) (fun _ _ _ _=>(pe_ix (ix_tupK (K:=K) rfl) (pv 0) pe_int (fun _ _=>rfl)))) pa_nil))))
   (pss_cons (ps_set (i:=10) sc.nd rfl (Or.inl rfl) (pe_op op_add pe_int (pe_callB (call_sumL rfl) rfl nbsum bt_sum (pa_cons (pe_comp ["_law_one"] [] rfl (CompOk.of (by kernel_rfl)) (by kernel_rfl) (pi_list (pv 8))
    (fun _ _ _ _=>(pg_name (i:=0) (by show (["_law_one"]:List Str).Nodup;decide +kernel) rfl (Or.inl rfl))) (fun _ _ _ _=>pif_nil) (fun _ _ _ _=>(pe_ix (ix_tupK (K:=K) rfl) (pv 0) pe_int (fun _ _=>rfl)))) pa_nil))))
   (pss_cons (ps_set (i:=11) sc.nd rfl (Or.inl rfl) (pe_op op_add pe_int (pe_maxD rfl rfl nb.max (pa_cons (pe_comp ["_law_one"] [] rfl (CompOk.of (by kernel_rfl)) (by kernel_rfl) (pi_list (pv 8))
    (fun _ _ _ _=>(pg_name (i:=0) (by show (["_law_one"]:List Str).Nodup;decide +kernel) rfl (Or.inl rfl))) (fun _ _ _ _=>pif_nil) (fun _ _ _ _=>(pe_ix (ix_tupK (K:=K) rfl) (pv 0) pe_int (fun _ _=>rfl)))) pa_nil) (pk_cons pe_int pk_nil))))
   (pss_one (ps_if (PW.pt (pw_and (pt_cmpR op_le (pe_op op_mul (pe_callB call_lenL rfl nb.len bt_len (pa_cons (pv 9) pa_nil)) (pe_callB call_len_str rfl nb.len bt_len (pa_cons (pe_ix ix_list (pv 9) pe_int (fun _ _=>rfl)) pa_nil))) (pv 3) (nomark _)) (pw_and (pt_cmpR op_le (pv 10) pe_int (nomark _)) (pw_and1 (pt_cmpR op_le (pv 11) pe_int (nomark _))))))
   (pss_cons (ps_set (i:=12) sc.nd rfl (Or.inl rfl) (pe_cal zVb (hr.mono (by decide)) rfl pass0 (pa_cons (pv 4) (pa_cons (pv 7) (pa_cons (pe_cmpR op_eq (pe_op op_mod (pe_op op_fdivP (pv 6) pe_int) pe_int) pe_int (nomark _)) pa_nil)))))
   (pss_one (ps_if (pt_cmpR op_notN (pv 12) pe_non (nomark _))
   (pss_cons (ps_set (i:=13) sc.nd rfl (Or.inl rfl) (pe_op op_catT (pe_tup (pa_cons (pv 12) pa_nil)) (pe_callTy call_tuple_of rfl nb.tuple bt_tuple (pa_cons (pe_comp ["_law_one"] [] rfl (CompOk.of (by kernel_rfl)) (by kernel_rfl) (pi_list (pv 8))
    (fun _ _ _ _=>(pg_name (i:=0) (by show (["_law_one"]:List Str).Nodup;decide +kernel) rfl (Or.inl rfl))) (fun _ _ _ _=>pif_nil) (fun _ _ _ _=>(pe_ix (ix_tupK (K:=K) rfl) (pv 0) pe_int (fun _ _=>rfl)))) pa_nil))))
   (pss_cons (ps_set (i:=14) sc.nd rfl (Or.inl rfl) (pe_op op_add (pe_ix ix_tup (pe_ix ix_list (pv 4) (pv 12) (fun _ _=>rfl)) pe_int (fun _ _=>rfl)) (pe_callB (call_sumL rfl) rfl nbsum bt_sum (pa_cons (pe_comp ["_law_one"] [] rfl (CompOk.of (by kernel_rfl)) (by kernel_rfl) (pi_list (pv 8))
    (fun _ _ _ _=>(pg_name (i:=0) (by show (["_law_one"]:List Str).Nodup;decide +kernel) rfl (Or.inl rfl))) (fun _ _ _ _=>pif_nil) (fun _ _ _ _=>(pe_ix (ix_tupK (K:=K) rfl) (pv 0) pe_int (fun _ _=>rfl)))) pa_nil))))
   (pss_one (ps_expr (pe_bm PySem.F.plainAttrs_list PySem.F.slot_list_append PySem.F.type_list_append mt_append (pv 5) (pa_cons (pe_tup (pa_cons (pv 13) (pa_cons (pe_ix ix_tup (pe_ix ix_list (pv 4) (pv 12) (fun _ _=>rfl)) pe_int (fun _ _=>rfl)) (pa_cons (pv 9) (pa_cons (pv 14) (pa_cons (pv 10) (pa_cons (pv 11) pa_nil))))))) pa_nil))))))
   pss_nil)))
   pss_nil)))))))
   (pss_one (ps_ret (pe_tup (pa_cons (pv 4) (pa_cons (pv 5) pa_nil)))))))),?_⟩
  refine seq_cut fun N1 h1=>?_
  walk_at "wp"
  refine ⟨Nat.zero_le _,fun lr hlr=>h1 _ _ ?_⟩
  clear h1
  refine seq_cut fun N1 h1=>?_
  walk_at "wp"
  refine ⟨Nat.zero_le _,fun ls hls=>h1 _ _ ?_⟩
  clear h1
  refine seq_cut fun N1 h1=>?_
  walk_at "wp"
  have sA:=(same_upd (o:=.lst []) hlr).trans (same_upd (o:=.lst []) hls)
  refine ⟨⟨_,SqL.of (sA _ _ hlc)⟩,?_⟩
  have flr:upd (upd H lr (.lst [])) ls (.lst []) lr=some (.lst []):=same_upd hls _ _ upd_same
  have fls:upd (upd H lr (.lst [])) ls (.lst []) ls=some (.lst []):=upd_same
  have hls0:H ls=none:=by
   by_cases e:ls=lr
   ·rw [e];exact hlr
   ·rwa [upd_ne e] at hls
  have hne:lr≠ls:=fun e=>by rw [← e,upd_same] at hls;cases hls
  generalize upd (upd H lr (.lst [])) ls (.lst [])=H1 at sA flr fls ⊢
  refine forw_list (xs:=cells.map V.int) (fun i σ H'=>GInv H p sg lr ls cells.length i H'∧∃ z1 z2 z3 z4 z5 z6 z7 z8 z9,σ=[some (V.ref lc),some (V.ref b),some (V.str (tx sg)),some (V.int most),some (V.ref lr),some (V.ref ls),z1,z2,z3,z4,z5,z6,z7,z8,z9]) ⟨⟨sA,⟨[],[],⟨flr,rfl,fun i t r e=>by simp at e⟩,fun r hr=>(nomatch hr),by simp,[],[],fls,⟨rfl,fun i a x e=>by simp at e⟩,fun x hx=>(nomatch hx),fun h=>absurd h (by decide),fun _=>rfl,by simp,by simp⟩,Nat.zero_le _⟩,_,_,_,_,_,_,_,_,_,rfl⟩ ?_ ?_ ?_
  ·rintro i σ H' _ ⟨⟨sm,_⟩,_⟩
   exact SqL.of (sm _ _ hlc)
  ·rintro i x σ H' hx ⟨⟨sm,⟨ts,rs,R,hro,h24,as,xs,hst,hin,hgood,hn1,hn0,hxl,hrl⟩,hi⟩,z1,z2,z3,z4,z5,z6,z7,z8,z9,rfl⟩
   rw [List.getElem?_map] at hx
   obtain ⟨c,hc,rfl⟩:=Option.map_eq_some_iff.mp hx
   have hi1:i < cells.length:=(List.getElem?_eq_some_iff.mp hc).1
   have hsr:∀ x∈xs,x.nm∈p∧∃ r c,Pic6 x.p r c:=fun x hx=>⟨(hgood x hx).nm,(hgood x hx).gr.pic6 (fun r hr=>(hro r hr).good)⟩
   refine seq_cut fun N2 h2=>?_
   walk_at "wp"
   refine ⟨ls,b,c,as,xs,p,sg,rfl,hst,hin,sm _ _ hb,hp,hpn,hsg,hsr,by omega,fun tp t lb r bs ys H2 htp ht hr0 hlb hin2 hys hnx hlb0 s2=>?_⟩
   refine ⟨tp,rfl,_,SqT.of htp,rfl,_,_,rfl,_,_,rfl,rfl,h2 _ _ ?_⟩
   clear h2
   obtain ⟨fs,rfl,rfl,hfs⟩:=hin2.full
   have hfl:fs.length≤2:=by rw [← List.length_map (f:=FI.x)];rcases hnx with ⟨_,e⟩ | ⟨_,x,e,_⟩ | ⟨_,x,y,e,_⟩ <;> (rw [e];simp)
   refine seq_cut fun N2 h2=>?_
   walk_at "wp"
   refine ⟨⟨_,SqL.of hlb⟩,?_⟩
   refine comp_items ⟨_,rfl⟩ hlb hfs (by omega) (f:=fun z=>V.ref z.lp) (fun _=>rfl) fun H3 s3=>?_
   have h6:∀ y∈fs.map FI.x,∃ r c,Pic6 y.p r c:=fun y hy=>(hsr y (hys y hy)).2
   obtain ⟨hfit,hmade⟩:=next_fits hnx h6
   obtain ⟨pc,hpc⟩:=Option.ne_none_iff_exists'.mp hmade
   refine fun pl hpl=>⟨t,pl,r,fs.map FI.lp,(fs.map FI.x).map SI.p,rfl,same_upd hpl _ _ (s3 _ _ ht),hr0.good.k4,hr0.good.good.t0,hr0.good.good.t7,⟨by rw [upd_same,List.map_map];rfl,by simp,fun i h1 h2=>?_⟩,hfit,fun pc' hpc' lq H4 hlq s4=>h2 _ _ ?_,fun e=>absurd e hmade⟩
   ·simp only [List.getElem_map]
    exact same_upd hpl _ _ (s3 _ _ (hfs _ (List.getElem_mem _)).2.2.1)
   clear h2
   rw [hpc] at hpc'
   cases hpc'
   have s5:Same H2 H4:=(s3.trans (same_upd hpl)).trans s4
   have hlb4:=s5 _ _ hlb
   have hfs4:∀ z∈fs,z.at H4:=fun z hz=>(hfs z hz).up s5
   refine seq_cut fun N2 h2=>?_
   walk_at "wp"
   refine ⟨⟨_,SqL.of hlb4⟩,?_⟩
   refine comp_items ⟨_,rfl⟩ hlb4 hfs4 (by omega) (f:=fun z=>V.int z.x.m) (fun _=>rfl) fun H5 s6=>?_
   refine fun l1 hl1=>⟨fs.map (fun z=>z.x.m),by rw [List.map_map];exact SqL.of upd_same,h2 _ _ ?_⟩
   clear h2
   have s7:=s5.trans (s6.trans (same_upd (o:=.lst (fs.map (fun z=>V.int z.x.m))) hl1))
   have hlq7:=(s6.trans (same_upd (o:=.lst (fs.map (fun z=>V.int z.x.m))) hl1)) _ _ hlq
   generalize upd H5 l1 (.lst (fs.map (fun z=>V.int z.x.m)))=H6 at s7 hlq7 ⊢
   obtain ⟨many,hmany⟩:∃ m,1 + (fs.map (fun z=>z.x.m)).sum=m:=⟨_,rfl⟩
   rw [hmany]
   clear s6 hl1 hlb4 hfs4 s5 hlq
   have hlb6:=s7 _ _ hlb
   have hfs6:∀ z∈fs,z.at H6:=fun z hz=>(hfs z hz).up s7
   refine seq_cut fun N2 h2=>?_
   walk_at "wp"
   refine ⟨⟨_,SqL.of hlb6⟩,?_⟩
   refine comp_items ⟨_,rfl⟩ hlb6 hfs6 (by omega) (f:=fun z=>V.int (z.x.k:Int)) (fun _=>rfl) fun H7 s8=>?_
   refine fun l2 hl2=>⟨fs.map (fun z=>(z.x.k:Int)),by rw [List.map_map];exact SqL.of upd_same,fun M hM=>h2 _ _ ?_⟩
   clear h2
   have s9:=s7.trans (s8.trans (same_upd (o:=.lst (fs.map (fun z=>V.int (z.x.k:Int)))) hl2))
   have hlq9:=(s8.trans (same_upd (o:=.lst (fs.map (fun z=>V.int (z.x.k:Int)))) hl2)) _ _ hlq7
   generalize upd H7 l2 (.lst (fs.map (fun z=>V.int (z.x.k:Int))))=H8 at s9 hlq9 ⊢
   clear s8 hl2 hlb6 hfs6 s7 hlq7
   have hx0:xs=[]→fs=[]∧r.1=0:=fun e=>by
    have hf0:fs=[]:=by
     cases fs with
     | nil=>rfl
     | cons z fs=>have:=hys z.x (by simp);rw [e] at this;exact nomatch this
    refine ⟨hf0,?_⟩
    rw [hf0] at hnx
    rcases hnx with ⟨e,_⟩ | ⟨_,x,e,_⟩ | ⟨_,x,y,e,_⟩
    ·exact e
    ·cases e
    ·cases e
   obtain ⟨pr,pcc,pc6⟩:=fits_pic6 hfit hpc hr0.good.good.sg
   have s10:=s2.trans s9
   have sH8:=sm.trans s10
   have keep:xs≠[]→GInv H p sg lr ls cells.length (i + 1) H8:=fun hx=>⟨sH8,⟨ts,rs,R.up s10,hro,h24,as,xs,s10 _ _ hst,hin.up s10,hgood,fun _=>hx,fun h=>absurd h (by omega),by omega,by omega⟩,hi1⟩
   have hpl:0 < pc.length:=by rw [pc6.rc.1];exact pc6.r0
   have hrow:atI (rowsV pc) 0=some (V.str (tx pc[0])):=atI_nat (j:=0) (rowsV_get hpl)
   have hr0l:(pc[0]).length=pcc:=pc6.rc.2 _ (List.getElem_mem hpl)
   have hprl:(rowsV pc).length=pr:=by rw [rowsV_length,pc6.rc.1]
   have hrl0:(tx pc[0]).length=pcc:=by rw [tx_length,hr0l]
   have b1:=pc6.r6
   have b2:=pc6.c6
   walk_at "wp"
   refine ⟨_,SqL.of hlq9,_,SqL.of hlq9,_,hrow,_,rfl,by rw [hrl0];exact line_le (by omega),.inl (by rw [hprl];omega),?_⟩
   rw [hprl,hrl0]
   have hfirst:xs=[]→(pr:Int) * (pcc:Int)≤most∧many≤60∧1 + M≤18:=fun e=>by
    obtain ⟨e1,e2⟩:=hx0 e
    subst e1
    have e3:madeP 0 r.2 []=some pc:=by rw [← e2];exact hpc
    cases (show some [r.2.sg]=some pc from e3)
    have e4:pr=1:=pc6.rc.1.symm
    have e5:pcc=1:=hr0l.symm.trans (signB_len hr0.good.good.sg)
    subst e4 e5
    refine ⟨by omega,by rw [← hmany];decide,?_⟩
    rcases hM with ⟨_,rfl⟩ | ⟨h,_⟩
    ·decide
    ·exact nomatch h
   refine ite_cut (fun t1=>?_) (fun t1=>keep fun e=>t1 (hfirst e).1)
   refine ite_cut (fun t2=>?_) (fun t2=>keep fun e=>t2 (hfirst e).2.1)
   refine ite_cut (fun t3=>?_) (fun t3=>keep fun e=>t3 (hfirst e).2.2)
   have hlb8:=s9 _ _ hlb
   have hfs8:∀ z∈fs,z.at H8:=fun z hz=>(hfs z hz).up s9
   have hM':((fs.map FI.x).map (fun y=>(y.k:Int))=[]∧M=0)∨(M∈(fs.map FI.x).map (fun y=>(y.k:Int))∧∀ a∈(fs.map FI.x).map (fun y=>(y.k:Int)),a≤M):=by
    rw [List.map_map];exact hM
   have R8:=R.up s10
   have st8:=s10 _ _ hst
   have in8:=hin.up s10
   refine number_do R8 hro (s9 _ _ ht) hr0 h24 (fun n r' ts' rs' H9 N=>?_) fun he H9 s11=>?_
   ·refine ite_cut (fun _=>?_) (fun e=>absurd (fun e=>by cases e) e)
    have hlbr:lb≠lr:=fun e=>by rw [e,R.1] at hlb0;cases hlb0
    have hlb9:=N.kp.ne hlb8 hlbr
    have hfs9:∀ z∈fs,z.at H9:=fun z hz=>N.kp.fi R8.1 (hfs8 z hz)
    refine ⟨line_le (by decide),fun p1 hp1=>⟨⟨_,SqL.of (same_upd hp1 _ _ hlb9)⟩,?_⟩⟩
    have e9:upd H9 p1 (.tup [V.int (n:Int)]) p1=some (.tup [V.int (n:Int)]):=upd_same
    have s9':=same_upd (o:=.tup [V.int (n:Int)]) hp1
    generalize upd H9 p1 (.tup [V.int (n:Int)])=H10 at e9 s9' ⊢
    refine comp_items ⟨_,rfl⟩ (s9' _ _ hlb9) (fun z hz=>(hfs9 z hz).up s9') (by omega) (f:=fun z=>z.vt) (fun _=>rfl) fun H11 s11=>?_
    intro l3 hl3
    refine ⟨_,.inl ⟨SqL.of upd_same,fun l4 hl4=>?_⟩⟩
    have sB:=(same_upd (o:=.lst (fs.map FI.vt)) hl3).trans (same_upd (o:=.tup (fs.map FI.vt)) hl4)
    refine catT_gen5 (same_upd hl4 _ _ (same_upd hl3 _ _ (s11 _ _ e9))) upd_same (by simp) (by simp;omega) fun tr H12 htr s12=>?_
    walk_at "wp"
    have sC:=s9'.trans (s11.trans (sB.trans s12))
    have R12:=N.rows.up sC
    obtain ⟨tn,htn⟩:∃ tn,ts'[n]?=some tn:=⟨_,List.getElem?_eq_getElem (by have:=(List.getElem?_eq_some_iff.mp N.at').1;have:=N.rows.2.1;omega)⟩
    have eat:atI (ts'.map V.ref) (n:Int)=some (V.ref tn):=atI_nat (by rw [List.getElem?_map,htn];rfl)
    have hrow':=R12.2.2 n tn r' htn N.at'
    refine ⟨_,SqL.of R12.1,_,eat,_,rfl,_,SqT.of hrow',_,rowV_2 r',⟨_,SqL.of (sC _ _ hlb9)⟩,?_⟩
    refine comp_items ⟨_,rfl⟩ (sC _ _ hlb9) (fun z hz=>(hfs9 z hz).up sC) (by omega) (f:=fun z=>V.int z.x.c) (fun _=>rfl) fun H13 s13=>?_
    intro l5 hl5
    have s14:=s13.trans (same_upd (o:=.lst (fs.map (fun z=>V.int z.x.c))) hl5)
    have e14:upd H13 l5 (.lst (fs.map (fun z=>V.int z.x.c))) l5=some (.lst ((fs.map (fun z=>z.x.c)).map V.int)):=by rw [upd_same,List.map_map];rfl
    generalize upd H13 l5 (.lst (fs.map (fun z=>V.int z.x.c)))=H14 at s14 e14 ⊢
    have st9:=N.kp.ne st8 hne.symm
    have st14:=s14 _ _ (sC _ _ st9)
    have R14:=R12.up s14
    have sD:=sC.trans s14
    have sH9:=N.kp.same sH8 hlr
    have hsum:(fs.map (fun z=>z.x.c)).sum=((fs.map FI.x).map SI.c).sum:=by rw [List.map_map];rfl
    refine ⟨_,SqL.of e14,_,rfl,.inl ⟨rfl,_,SqL.of st14⟩,_,SqL.of R14.1,_,eat,_,rfl,_,SqT.of (s14 _ _ hrow'),_,rowV_1 r',line_le (by decide),fun np hnp=>⟨_,same_upd hnp _ _ st14,?_,?_⟩⟩
    ·rw [List.length_map,hin.1];exact line_big (by omega)
    rw [hsum]
    obtain ⟨gr,hM0⟩:=next_gr N.at' N.as' hnx (fun y hy=>N.up (hgood y (hys y hy)).gr) hpc hM'
    have hk:(1 + M:Int)=((M.toNat + 1:Nat):Int):=by omega
    rw [hk]
    have sE:=same_upd (o:=.tup [V.ref tr,V.str (tx r'.2.n),V.ref lq,V.int (r'.2.c + ((fs.map FI.x).map SI.c).sum),V.int many,V.int ((M.toNat + 1:Nat):Int)]) hnp
    have eN:upd H14 np (.tup [V.ref tr,V.str (tx r'.2.n),V.ref lq,V.int (r'.2.c + ((fs.map FI.x).map SI.c).sum),V.int many,V.int ((M.toNat + 1:Nat):Int)]) np=some (.tup [V.ref tr,V.str (tx r'.2.n),V.ref lq,V.int (r'.2.c + ((fs.map FI.x).map SI.c).sum),V.int many,V.int ((M.toNat + 1:Nat):Int)]):=upd_same
    generalize upd H14 np (.tup [V.ref tr,V.str (tx r'.2.n),V.ref lq,V.int (r'.2.c + ((fs.map FI.x).map SI.c).sum),V.int many,V.int ((M.toNat + 1:Nat):Int)])=H15 at sE eN ⊢
    have sF:=sD.trans sE
    have st15:=sE _ _ st14
    have in15:StockIn H15 as xs:=(N.kp.st R8.1 in8).up sF
    have hpcn:pc≠[]:=fun e=>by rw [e] at hpl;cases hpl
    have item:ItemAt H15 np ⟨.tup (.int (n:Int) :: (fs.map FI.x).map SI.d),r'.2.n,pc,r'.2.c + ((fs.map FI.x).map SI.c).sum,many,M.toNat + 1⟩:=
     ⟨V.ref tr,lq,eN,TrAt.node (sE _ _ (s14 _ _ htr)) (items_tr fun z hz=>(hfs9 z hz).up sF),sF _ _ (N.kp.ne hlq9 (pic_ne R8.1 hlq9 hpcn)),hpcn⟩
    have stk:=in15.add (o:=.lst (as.map V.ref ++ [V.ref np])) item st15
    refine ⟨same_upd2 (sH9.trans sF) hls0,⟨ts',rs',(R14.up sE).keep st15 hne,N.ro,N.len,as ++ [np],_,by rw [upd_same,List.map_append];rfl,stk,fun x hx=>?_,fun _=>by simp,fun h=>absurd h (by omega),by simp;omega,by have:=N.le1;omega⟩,hi1⟩
    rcases List.mem_append.mp hx with h | h
    ·exact ⟨N.up (hgood x h).gr,(hgood x h).nm,(hgood x h).k1⟩
    ·rw [List.mem_singleton.mp h]
     exact ⟨gr,(N.ro _ (List.mem_of_getElem? N.at')).n,by show M.toNat + 1≤18;omega⟩
   ·refine ite_cut (fun e=>absurd rfl e) (fun _=>?_)
    have sx:=s10.trans s11
    exact ⟨sm.trans sx,⟨ts,rs,R.up sx,hro,h24,as,xs,sx _ _ hst,hin.up sx,hgood,fun _ e=>by (by_cases h0:i=0;rw [hn0 h0] at he;cases he;exact hn1 (by omega) e),fun h=>absurd h (by omega),by omega,by omega⟩,hi1⟩
  ·rintro σ H' ⟨⟨sm,⟨ts,rs,R,hro,h24,as,xs,hst,hin,hgood,hn1,hn0,hxl,hrl⟩,hi⟩,z1,z2,z3,z4,z5,z6,z7,z8,z9,rfl⟩
   refine h1 _ _ ?_
   walk_at "wp"
   rw [List.length_map] at hn1 hxl hrl
   exact ⟨line_le (by decide),fun tp htp=>q tp lr ls ts rs as xs _ upd_same (R.up (same_upd htp)) hro h24 hrl (same_upd htp _ _ hst) (hin.up (same_upd htp)) hgood (hn1 hc1) (by omega) hne hlr hls0 (sm.trans (same_upd htp))⟩
abbrev s_l_grammar:Stmt:=top 55
def sp_l_grammar (R:RC) (CG:Addr):Sp:=fun vs H Q _=>∃ (l b:Addr) (p:Pic) (sg st:List Nat) (ts:List Addr) (rs:List (Nat × RV)),vs=[.ref l,.ref b,.str (tx sg)]∧RowsAt H l ts rs∧(∀ r∈rs,GoodR r)∧rs.length≤24∧H b=some (.lst (rowsV p))∧p[0]?=some st∧sg.length≤100∧st.length≤100∧gFault sg st rs=none∧∀ b db as H',GramF R H' CG db b sg st as rs→Same H H'→Q (.ref b) H'
theorem sc_l_grammar:FnScope ["_law_rules","_law_names_here","_law_signs_here"] ["_law_rules","_law_names_here","_law_signs_here"] (defScope s_l_grammar):=⟨rfl,rfl,rfl,by decide +kernel,rfl,by decide +kernel,by decide +kernel⟩
theorem ok_l_grammar {R:RC} {f CG zaa:Addr} {fd:FuncData} (F:Fun K "_law_grammar" "_law_grammar" s_l_grammar f fd) (nb:NB mg) (gk:GNA K CG) (zZa:Cal P w K mg base CX0 6 "_law_rule_made" ["_law_told"] (sp_l_rule R)) (zGa:CalK P w K mg base (CX1 P w) 4 "Grammar" CG ["self","signs","start","rules"] (sp_gram_init K R zaa)):FnOk P w K mg base CX0 7 f fd ["_law_rules","_law_names_here","_law_signs_here"] (sp_l_grammar R CG):=by
 have sc:=sc_l_grammar
 refine F.ok sc (fun vs H Q E h=>?_) (fun cdv A outer s H vs Q E hr h=>?_)
 ·obtain ⟨l,b,p,sg,st,ts,rs,rfl,_⟩:=h;rfl
 ·obtain ⟨l,b,p,sg,st,ts,rs,rfl,o,hg,hn,hb,hp0,hsg,hst,g0,q⟩:=h
  refine ⟨_,(pss_one (ps_ret (pe_calK (CX:=CX1 P w) zGa (hr.mono (by decide)) rfl passes_E0 (pa_cons (pv 2) (pa_cons (pe_ix ix_list (pv 1) pe_int (fun _ _=>rfl)) (pa_cons (pe_comp ["_law_told"] [] rfl (CompOk.of (by kernel_rfl)) (by kernel_rfl) (pi_list (pv 0))
    (fun _ _ _ _=>(pg_name (i:=0) (by show (["_law_told"]:List Str).Nodup;decide +kernel) rfl (Or.inl rfl))) (fun _ _ _ _=>pif_nil) (fun _ _ _ _=>(pe_cal zZa (hr.mono (by decide)) rfl pass0 (pa_cons (pv 0) pa_nil)))) pa_nil)))))),?_⟩
  walk_at "wp"
  have h0:atI (rowsV p) 0=some (V.str (tx st)):=(show atI _ ((0:Nat):Int)=_ from atI_nat (by unfold rowsV;rw [List.getElem?_map,hp0];rfl))
  refine ⟨_,SqL.of hb,_,h0,⟨_,SqL.of o.1⟩,rules_comp o hg (by omega) fun as H2 s2 hA lr hlr x dx hx hdx hne=>?_⟩
  have s3:Same H2 (upd H2 lr (.lst (as.map V.ref))):=same_upd hlr
  have e3:upd H2 lr (.lst (as.map V.ref)) lr=some (.lst (as.map V.ref)):=upd_same
  generalize upd H2 lr (.lst (as.map V.ref))=H3 at s3 e3 hx hdx ⊢
  have sm4:Same H3 (upd (upd H3 dx (.own x)) x (.ins CG dx [])):=(same_upd hdx).trans (same_upd (by rw [upd_ne (Ne.symm hne)];exact hx))
  refine ⟨x,CG,dx,lr,sg,st,as,rs,rfl,upd_same,gk.cl.cl,gk.na,by omega,by omega,sm4 _ _ e3,(hA.up s3).up sm4,fun r hr=>(hg r hr).k4,by omega,(fun _ H4 lk pn t sx gA _ _ _=>⟨rfl,?_⟩),fun y hy=>nomatch hy.symm.trans g0⟩
  exact q x dx _ H4 gA.f ((s2.trans s3).trans fun b u e=>sx b u (ne_of_none e hx) (sm4 b u e))
abbrev s_l_drawn:Stmt:=top 56
def sp_l_drawn (K:W.Frag) (R:RC) (CG:Addr):Sp:=fun vs H Q _=>∃ (a:Addr) (ns:List Int) (most steps:Int),vs=[.ref a,.int most,.int steps]∧SqL K H a (ns.map V.int)∧1≤most∧0≤steps∧steps≤19 ∧
 ∀ tp lr ls gr gd ga ts rs p sg st as xs H',H' tp=some (.tup [.ref lr,.ref ls,.ref gr])→RowsAt H' lr ts rs→(∀ r∈rs,RowOf p sg r)→rs.length≤24→p.length=4→(∀ r∈p,nameB r=true)→signsB sg=true→p[0]?=some st→H' ls=some (.lst (as.map V.ref))→StockIn H' as xs→(∀ x∈xs,GoodI rs p x)→xs≠[]→xs.length≤100→GramF R H' CG gd gr sg st ga rs→Same H H'→Q (.ref tp) H'
theorem sc_l_drawn:FnScope ["_law_script","_law_most","_law_steps","_law_names_here","_law_signs_here","_law_many","_law_cells","_law_rules","_law_stock","_law_k"] ["_law_script","_law_most","_law_steps"] (defScope s_l_drawn):=⟨rfl,rfl,rfl,by decide +kernel,rfl,by decide +kernel,by decide +kernel⟩
theorem ok_l_drawn {R:RC} {f CG:Addr} {fd:FuncData} (F:Fun K "_law_drawn" "_law_drawn" s_l_drawn f fd) (nb:NB mg) (zCa:Cal P w K mg base CX0 1 "_law_cell" ["_law_script","_law_k"] (sp_l_cell K)) (zCc:Cal P w K mg base CX0 1 "_law_names" ["_law_cell_here"] sp_l_names) (zDc:Cal P w K mg base CX0 1 "_law_signs" ["_law_cell_here","_law_most"] sp_l_signs) (zua:Cal P w K mg base CX0 1 "_law_drawn_rule" ["_law_cell_here","_law_names_here","_law_signs_here"] sp_l_drawn_rule) (zEc:Cal P w K mg base CX0 5 "_law_grown" ["_law_cells","_law_names_here","_law_signs_here","_law_most"] sp_l_grown) (zzb:Cal P w K mg base CX0 7 "_law_grammar" ["_law_rules","_law_names_here","_law_signs_here"] (sp_l_grammar R CG)):FnOk P w K mg base CX0 8 f fd ["_law_script","_law_most","_law_steps"] (sp_l_drawn K R CG):=by
 have sc:=sc_l_drawn
 refine F.ok sc (fun vs H Q E h=>?_) (fun cdv A outer s H vs Q E hr h=>?_)
 ·obtain ⟨a,ns,most,steps,rfl,_⟩:=h;rfl
 ·obtain ⟨a,ns,most,steps,rfl,ha,hm,hs0,hs19,q⟩:=h
  refine ⟨_,(pss_cons (ps_set (i:=3) sc.nd rfl (Or.inl rfl) (pe_cal zCc (hr.mono (by decide)) rfl pass0 (pa_cons (pe_cal zCa (hr.mono (by decide)) rfl pass0 (pa_cons (pv 0) (pa_consI pa_nil))) pa_nil)))
   (pss_cons (ps_set (i:=4) sc.nd rfl (Or.inl rfl) (pe_cal zDc (hr.mono (by decide)) rfl pass0 (pa_cons (pe_cal zCa (hr.mono (by decide)) rfl pass0 (pa_cons (pv 0) (pa_consI pa_nil))) (pa_consI pa_nil))))
   (pss_cons (ps_set (i:=5) sc.nd rfl (Or.inl rfl) (pe_op op_mod (pe_cal zCa (hr.mono (by decide)) rfl pass0 (pa_cons (pv 0) (pa_consI pa_nil))) (pe_op op_add (pv 2) pe_int)))
   (pss_cons (ps_set (i:=6) sc.nd rfl (Or.inl rfl) (pe_op op_cat (pe_lst (pa_cons (pe_op op_mul (pe_op op_fdivP (pe_cal zCa (hr.mono (by decide)) rfl pass0 (pa_cons (pv 0) (pa_consI pa_nil))) pe_int) pe_int) pa_nil)) (pe_comp ["_law_k"] [0] rfl (CompOk.of (by kernel_rfl)) (by kernel_rfl) (pi_range1 rfl nb.range (pa_cons (pv 5) pa_nil))
    (fun _ _ _ _=>(pg_name (i:=0) (by show (["_law_k","_law_script"]:List Str).Nodup;decide +kernel) rfl (Or.inl rfl))) (fun _ _ _ _=>pif_nil) (fun _ _ _ _=>(pe_cal zCa (hr.mono (by decide)) rfl pass0 (pa_cons (pv 1) (pa_cons (pe_op op_add pe_int (pv 0)) pa_nil)))))))
   (pss_cons (ps_asg (pe_cal zEc (hr.mono (by decide)) rfl pass0 (pa_cons (pv 6) (pa_cons (pv 3) (pa_cons (pv 4) (pa_cons (pv 1) pa_nil))))) (pg_tup (n:=2) rfl (pgs_cons (pg_name (i:=7) sc.nd rfl (Or.inl rfl)) (pgs_cons (pg_name (i:=8) sc.nd rfl (Or.inl rfl)) pgs_nil))))
   (pss_cons (ps_forw PassesOwn.never rfl (pi_range1 rfl nb.range (pa_cons (pe_op op_mod (pe_op op_fdivP (pe_cal zCa (hr.mono (by decide)) rfl pass0 (pa_cons (pv 0) (pa_consI pa_nil))) pe_int) pe_int) pa_nil)) (pg_name (i:=9) sc.nd rfl (Or.inl rfl))
   (pss_one (ps_expr (pe_bm PySem.F.plainAttrs_list PySem.F.slot_list_append PySem.F.type_list_append mt_append (pv 7) (pa_cons (pe_cal zua (hr.mono (by decide)) rfl pass0 (pa_cons (pe_cal zCa (hr.mono (by decide)) rfl pass0 (pa_cons (pv 0) (pa_cons (pe_op op_add pe_int (pv 9)) pa_nil))) (pa_cons (pv 3) (pa_cons (pv 4) pa_nil)))) pa_nil)))))
   (pss_one (ps_ret (pe_tup (pa_cons (pv 7) (pa_cons (pv 8) (pa_cons (pe_cal zzb (hr.mono (by decide)) rfl pass0 (pa_cons (pv 7) (pa_cons (pv 3) (pa_cons (pv 4) pa_nil)))) pa_nil)))))))))))),?_⟩
  refine seq_cut fun N1 h1=>?_
  walk_at "wp"
  refine ⟨a,ns,0,rfl,ha,by omega,fun c0=>⟨c0,rfl,fun b p H1 hb0 hb hp hpn s1=>h1 _ _ ?_⟩⟩
  clear h1
  refine seq_cut fun N1 h1=>?_
  walk_at "wp"
  refine ⟨a,ns,1,rfl,s1.seq ha,by omega,fun c1=>⟨c1,rfl,fun sg H2 hsg s2=>h1 _ _ ?_⟩⟩
  clear h1
  have s02:=s1.trans s2
  refine seq_cut fun N1 h1=>?_
  walk_at "wp"
  refine ⟨a,ns,7,rfl,s02.seq ha,by omega,fun c7=>⟨c7,rfl,by omega,h1 _ _ ?_⟩⟩
  clear h1
  obtain ⟨mn,hmn⟩:∃ mn:Nat,c7 % (steps + 1)=(mn:Int):=⟨_,(Int.toNat_of_nonneg (Int.emod_nonneg _ (by omega))).symm⟩
  have hmn2:mn≤19:=by have:=Int.emod_lt_of_pos c7 (b:=steps + 1) (by omega);omega
  rw [hmn]
  refine seq_cut fun N1 h1=>?_
  walk_at "wp"
  refine ⟨a,ns,2,rfl,s02.seq ha,by omega,fun c2=>?_⟩
  walk_at "wp"
  refine ⟨line_le (by decide),fun p0 hp0=>⟨by omega,by omega,?_⟩⟩
  have s3:=same_upd (o:=.lst [V.int (c2 / 8 * 8)]) hp0
  have e3:upd H2 p0 (.lst [V.int (c2 / 8 * 8)]) p0=some (.lst [V.int (c2 / 8 * 8)]):=upd_same
  generalize upd H2 p0 (.lst [V.int (c2 / 8 * 8)])=H3 at s3 e3 ⊢
  have s03:=s02.trans s3
  rw [Int.toNat_natCast]
  refine comp_range (fun i acc σ H'=>Same H3 H'∧i≤mn∧(∃ cs:List Int,acc=cs.map V.int∧cs.length=i)∧∃ z,σ=[z,some (V.ref a)]) ⟨fun _ _ e=>e,Nat.zero_le _,⟨[],rfl,rfl⟩,_,rfl⟩ ?_ (fun i acc σ H' h=>h.2.1) ?_ ?_
  ·rintro i acc σ H' ⟨_,hi,⟨cs,rfl,hc⟩,_⟩
   rw [List.length_map,hc];exact line_big (by omega)
  ·rintro i acc σ H' hi ⟨sm,_,⟨cs,rfl,hc⟩,z,rfl⟩
   walk_at "wp"
   exact ⟨a,ns,8 + i,by simp,(s03.trans sm).seq ha,by omega,fun c=>⟨sm,hi,⟨cs ++ [c],by simp,by simp [hc]⟩⟩⟩
  rintro acc σ H4 ⟨s4,_,⟨cs,rfl,hc⟩,_⟩
  intro l1 hl1
  refine ⟨_,same_upd hl1 _ _ (s4 _ _ e3),_,upd_same,?_,fun lc hlc=>h1 _ _ ?_⟩
  ·rw [List.length_map,hc];exact line_le (by simp;omega)
  clear h1
  have s5:=s4.trans ((same_upd (o:=.lst (cs.map V.int)) hl1).trans (same_upd (o:=.lst ([V.int (c2 / 8 * 8)] ++ cs.map V.int)) hlc))
  have e5:upd (upd H4 l1 (.lst (cs.map V.int))) lc (.lst ([V.int (c2 / 8 * 8)] ++ cs.map V.int)) lc=some (.lst ((c2 / 8 * 8 :: cs).map V.int)):=upd_same
  generalize upd (upd H4 l1 (.lst (cs.map V.int))) lc (.lst ([V.int (c2 / 8 * 8)] ++ cs.map V.int))=H5 at s5 e5 ⊢
  have s05:=s03.trans s5
  have hb5:=s5 _ _ (s3 _ _ (s2 _ _ hb))
  refine seq_cut fun N1 h1=>?_
  walk_at "wp"
  refine ⟨lc,b,_,p,sg,most,rfl,e5,by simp,by simp;omega,hm,hb5,hp,hpn,hsg,fun tp lr ls ts rs as xs H6 htp hR hro h24 hcl hst hin hgood hx0 hxl hne hlr hls s6=>⟨tp,rfl,_,SqT.of htp,rfl,_,_,rfl,_,_,rfl,rfl,h1 _ _ ?_⟩⟩
  clear h1
  have s06:=s05.trans s6
  have hlr0:=same_no s05 hlr
  have hls0:=same_no s05 hls
  have hcl':rs.length≤20:=by simp at hcl;omega
  refine seq_cut fun N1 h1=>?_
  walk_at "wp"
  refine ⟨a,ns,7,rfl,s06.seq ha,by omega,fun c7'=>⟨c7',rfl,?_⟩⟩
  obtain ⟨ex,hex⟩:∃ ex:Nat,c7' / 17 % 5=(ex:Int):=⟨_,(Int.toNat_of_nonneg (Int.emod_nonneg _ (by omega))).symm⟩
  have hex2:ex≤4:=by have:=Int.emod_lt_of_pos (c7' / 17) (b:=5) (by omega);omega
  rw [hex,Int.toNat_natCast]
  refine ⟨by omega,by omega,?_⟩
  have hb6:=s6 _ _ hb5
  refine forw_range (fun i σ H'=>Same H H'∧H' b=some (.lst (rowsV p))∧(∃ ts rs,RowsAt H' lr ts rs∧(∀ r∈rs,RowOf p sg r)∧rs.length≤20 + i∧H' ls=some (.lst (as.map V.ref))∧StockIn H' as xs∧(∀ x∈xs,GoodI rs p x))∧∃ z,σ=[some (V.ref a),some (V.int most),some (V.int steps),some (V.ref b),some (V.str (tx sg)),some (V.int (mn:Int)),some (V.ref lc),some (V.ref lr),some (V.ref ls),z]) ⟨s06,hb6,⟨ts,rs,hR,hro,hcl',hst,hin,hgood⟩,_,rfl⟩ ?_ ?_
  ·rintro i σ H' hi ⟨sm,hb',⟨ts,rs,hR,hro,hrl,hst,hin,hgood⟩,z,rfl⟩
   walk_at "wp"
   refine ⟨.inl ⟨rfl,_,SqL.of hR.1⟩,a,ns,24 + i,by simp,sm.seq ha,by omega,fun c=>⟨c,b,p,sg,rfl,hb',hp,hpn,hsg,fun t r H7 hr0 ht _ s7=>?_⟩⟩
   have hR7:=hR.up s7
   have hlb:b≠lr:=fun e=>by rw [e,hlr] at hb5;cases hb5
   refine ⟨_,hR7.1,by rw [List.length_map,hR.2.1];exact line_big (by omega),?_⟩
   refine ⟨same_upd2 (sm.trans s7) hlr0,by rw [upd_ne hlb];exact s7 _ _ hb',ts ++ [t],rs ++ [r],hR7.app ht,fun x hx=>?_,by simp;omega,by rw [upd_ne hne.symm];exact s7 _ _ hst,⟨hin.1,fun i a x e1 e2=>((hin.2 i a x e1 e2).up s7).put hR7.1⟩,fun x hx=>(hgood x hx).more r⟩
   rcases List.mem_append.mp hx with h | h
   ·exact hro x h
   ·rw [List.mem_singleton.mp h];exact hr0
  rintro σ H7 ⟨sm,hb',⟨ts,rs,hR,hro,hrl,hst,hin,hgood⟩,z,rfl⟩
  refine h1 _ _ ?_
  walk_at "wp"
  have hp0:p[0]?=some (p[0]'(by omega)):=List.getElem?_eq_getElem (by omega)
  have hstl:=nameB_len (hpn _ (List.getElem_mem (show 0 < p.length by omega)))
  have hsl:=signsB_len hsg
  refine ⟨lr,b,p,sg,_,ts,rs,rfl,hR,fun r hr=>(hro r hr).good,by omega,hb',hp0,by omega,by omega,rows_make hsg (List.getElem_mem _) hpn (by omega) (by omega) hro,fun gr gd ga H8 g8 s8=>⟨line_le (by decide),fun tq htq=>?_⟩⟩
  have s9:=s8.trans (same_upd (o:=.tup [V.ref lr,V.ref ls,V.ref gr]) htq)
  exact q tq lr ls gr gd ga ts rs p sg _ as xs _ upd_same (hR.up s9) hro (by omega) hp hpn hsg hp0 (s9 _ _ hst) (hin.up s9) hgood hx0 hxl (g8.up (same_upd htq)) (sm.trans s9)
def Sh:Nat→Dt→List Int→Prop
 | 0,_,_=>False
 | n + 1,d,ns=>∃ (i:Nat) (ds:List Dt) (nss:List (List Int)),d=.tup (.int (i:Int) :: ds)∧ns=(i:Int) :: nss.flatten∧ds.length=nss.length∧ds.length≤2∧∀ (j:Nat) d' ns',ds[j]?=some d'→nss[j]?=some ns'→Sh n d' ns'
theorem Sh.mono:∀ {m n:Nat} {d:Dt} {ns:List Int},Sh m d ns→m≤n→Sh n d ns
 | 0,_,_,_,h,_=>h.elim
 | m + 1,0,_,_,_,h=>absurd h (by omega)
 | m + 1,n + 1,d,ns,⟨i,ds,nss,e1,e2,e3,e4,h⟩,hmn=>⟨i,ds,nss,e1,e2,e3,e4,fun j d' ns' h1 h2=>(h j d' ns' h1 h2).mono (by omega)⟩
theorem Sh.len:∀ {n:Nat} {d:Dt} {ns:List Int},Sh n d ns→ns.length < 2 ^ n
 | 0,_,_,h=>h.elim
 | n + 1,d,ns,⟨i,ds,nss,e1,e2,e3,e4,h⟩=>by
  have hp:0 < 2 ^ n:=Nat.two_pow_pos n
  have h':∀ (j:Nat) ns',nss[j]?=some ns'→ns'.length < 2 ^ n:=fun j ns' hj=>by
   have hj2:j < ds.length:=by rw [e3];exact (List.getElem?_eq_some_iff.mp hj).1
   exact (h j _ ns' (List.getElem?_eq_getElem hj2) hj).len
  rw [e2,Nat.pow_succ]
  match nss,e3,h' with
  | [],_,_=>simp;omega
  | [a],_,h'=>have:=h' 0 a rfl;simp;omega
  | [a,b],_,h'=>have:=h' 0 a rfl;have:=h' 1 b rfl;simp;omega
  | a :: b :: c :: nss,e3,_=>simp at e3;omega
theorem atI_0 {α:Type} (x:α) (xs:List α):atI (x :: xs) 0=some x:=show atI (x :: xs) ((0:Nat):Int)=some x from atI_nat rfl
theorem trAts_get {H:Hp}:∀ {ds:List Dt} {xs:List V},TrAts H ds xs→∀ {j:Nat} {x:V},xs[j]?=some x→∃ d,ds[j]?=some d∧TrAt H d x
 | [],_,h,j,x,e=>by unfold TrAts at h;subst h;simp at e
 | d :: ds,xs,h,j,x,e=>by
  obtain ⟨y,r,rfl,h1,h2⟩:=h.uncons
  match j,e with
  | 0,e=>cases e;exact ⟨d,rfl,h1⟩
  | j + 1,e=>exact trAts_get h2 e
theorem cut1 (x:V) (ys:List V):cutV (x :: ys) (some 1) none=ys:=by
 unfold cutV
 rw [show (some 1:Option Int)=some ((1:Nat):Int) from rfl,HT.sIx_nat,HT.sIx_none,Nat.min_eq_left (by simp)]
 exact List.take_of_length_le (by simp)
theorem cut1_ne (x:V) (ys:List V):¬ (HT.sIx (x :: ys).length 0 (some 1)=0∧HT.sIx (x :: ys).length (x :: ys).length none=(x :: ys).length):=by
 rw [show (some 1:Option Int)=some ((1:Nat):Int) from rfl,HT.sIx_nat,Nat.min_eq_left (by simp)]
 exact fun h=>absurd h.1 (by decide)
theorem take_flat {α:Type} {xss:List (List α)} {j:Nat} {xs:List α} (h:xss[j]?=some xs):(xss.take (j + 1)).flatten=(xss.take j).flatten ++ xs:=by
 rw [List.take_succ,h];simp
theorem take_flat_le {α:Type}:∀ (xss:List (List α)) (j:Nat),(xss.take j).flatten.length≤xss.flatten.length
 | [],_=>by simp
 | xs :: xss,0=>by simp
 | xs :: xss,j + 1=>by have:=take_flat_le xss j;simp [-List.length_flatten] ;omega
abbrev s_numbers_in:Stmt:=top 11
def sp_numbers_in (n:Nat):Sp:=fun vs H Q _=>∃ (v:V) (d:Dt) (ns:List Int),vs=[v]∧TrAt H d v∧Sh n d ns∧∀ l H',H l=none→H' l=some (.lst (ns.map V.int))→Same H H'→Q (.ref l) H'
theorem sc_numbers_in:FnScope ["tree","numbers","part"] ["tree"] (defScope s_numbers_in):=⟨rfl,rfl,rfl,by decide +kernel,rfl,by decide +kernel,by decide +kernel⟩
theorem ok_numbers_in {f:Addr} {fd:FuncData} (F:Fun K "numbers_in" "numbers_in" s_numbers_in f fd) (nb:NB mg) (hm:mg "numbers_in" = some (.ref f)) (hk:W.keepIn K (.ref f)=true) (hb:Binds K fd ["tree"] []):∀ n,n≤18→FnOk P w K mg base CX0 (n + 1) f fd ["tree"] (sp_numbers_in n)
 | 0,_=>by
  refine F.ok sc_numbers_in (fun vs H Q E h=>?_) (fun cdv A outer s H vs Q E hr h=>?_)
  ·obtain ⟨v,d,ns,_,_,h,_⟩:=h;exact h.elim
  ·obtain ⟨v,d,ns,_,_,h,_⟩:=h;exact h.elim
 | n + 1,hn=>by
  have sc:=sc_numbers_in
  have c_numbers_in:Cal P w K mg base CX0 (n + 1) "numbers_in" ["tree"] (sp_numbers_in n):=⟨f,fd,ok_numbers_in F nb hm hk hb n (by omega),hm,hk,hb⟩
  refine F.ok sc (fun vs H Q E h=>?_) (fun cdv A outer s H vs Q E hr h=>?_)
  ·obtain ⟨v,d,ns,rfl,_⟩:=h;rfl
  ·obtain ⟨v,d,ns,rfl,ht,hsh,q⟩:=h
   refine ⟨_,(pss_cons (ps_set (i:=1) sc.nd rfl (Or.inl rfl) (pe_lst (pa_cons (pe_ix ix_tup (pv 0) pe_int (fun _ _=>rfl)) pa_nil)))
   (pss_cons (ps_forw PassesOwn.never rfl (pi_tup (pe_slice sl_tup (pv 0) (po_some pe_int) po_none)) (pg_name (i:=2) sc.nd rfl (Or.inl rfl))
   (pss_one (ps_expr (pe_bm PySem.F.plainAttrs_list PySem.F.slot_list_extend PySem.F.type_list_extend mt_extend (pv 1) (pa_cons (pe_cal c_numbers_in (hr.mono (by omega)) rfl pass0 (pa_cons (pv 2) pa_nil)) pa_nil)))))
   (pss_one (ps_ret (pv 1))))),?_⟩
   obtain ⟨i,ds,nss,rfl,rfl,e3,e4,hch⟩:=hsh
   unfold TrAt at ht
   obtain ⟨a,xs,rfl,hta,hts⟩:=ht
   obtain ⟨x0,ys,rfl,hx0,htr⟩:=hts.uncons
   unfold TrAt at hx0
   subst hx0
   have hyl:=htr.length
   refine seq_cut fun N1 h1=>?_
   walk_at "wp"
   refine ⟨_,SqT.of hta,_,atI_0 _ _,line_le (by decide),fun l hl=>h1 _ _ ?_⟩
   clear h1
   refine seq_cut fun N1 h1=>?_
   walk_at "wp"
   have s1:=same_upd (o:=.lst [V.int (i:Int)]) hl
   have e1:upd H l (.lst [V.int (i:Int)]) l=some (.lst [V.int (i:Int)]):=upd_same
   generalize upd H l (.lst [V.int (i:Int)])=H1 at s1 e1 ⊢
   refine ⟨_,SqT.of (s1 _ _ hta),cut1_ne _ _,fun p hp=>?_⟩
   rw [cut1]
   have s2:=s1.trans (same_upd (o:=.tup ys) hp)
   have e2:=same_upd (o:=.tup ys) hp _ _ e1
   have ep:upd H1 p (.tup ys) p=some (.tup ys):=upd_same
   generalize upd H1 p (.tup ys)=H2 at s2 e2 ep ⊢
   refine ⟨⟨_,SqT.of ep⟩,?_⟩
   have hpw:2 ^ (n + 1)≤2 ^ 18:=Nat.pow_le_pow_right (by decide) hn
   have hlen:(nss.flatten).length + 1 < 262145:=by
    have h:=Sh.len (n:=n + 1) (d:=.tup (.int (i:Int) :: ds)) (ns:=(i:Int) :: nss.flatten) ⟨i,ds,nss,rfl,rfl,e3,e4,hch⟩
    rw [List.length_cons] at h
    have:(2:Nat) ^ 18=262144:=by decide
    omega
   refine forw_tup (xs:=ys) (fun j σ H'=>Same H H'∧H' p=some (.tup ys)∧H' l=some (.lst (((i:Int) :: (nss.take j).flatten).map V.int))∧∃ z,σ=[some (V.ref a),some (V.ref l),z]) ⟨s2,ep,by rw [List.take_zero];exact e2,_,rfl⟩ ?_ ?_ ?_
   ·rintro j σ H' _ ⟨_,h,_⟩
    exact SqT.of h
   ·rintro j x σ H' hx ⟨sm,hp',hl',z,rfl⟩
    obtain ⟨d',hd',ht'⟩:=trAts_get htr hx
    have hj:j < nss.length:=by rw [← e3];exact (List.getElem?_eq_some_iff.mp hd').1
    have hns:nss[j]?=some nss[j]:=List.getElem?_eq_getElem hj
    have b1:=take_flat_le nss j
    have b2:=take_flat_le nss (j + 1)
    rw [take_flat hns,List.length_append] at b2
    walk_at "wp"
    refine ⟨.inl ⟨rfl,_,SqL.of hl'⟩,x,d',nss[j],rfl,ht'.up (TupS.of sm) _,hch j d' _ hd' hns,fun m H3 hm3 h3 s3=>⟨m,rfl,_,s3 _ _ hl',_,h3,?_,same_upd2 (sm.trans s3) hl,?_,?_⟩⟩
    ·simp only [List.length_map,List.length_cons]
     exact line_le (by omega)
    ·rw [upd_ne (fun e=>by rw [e,hl'] at hp';cases hp')]
     exact s3 _ _ hp'
    ·rw [upd_same,take_flat hns]
     simp
   ·rintro σ H' ⟨sm,hp',hl',z,rfl⟩
    refine h1 _ _ ?_
    walk_at "wp"
    rw [hyl,e3,List.take_length] at hl'
    exact q l H' hl hl' sm
theorem Gr.node {rs:List (Nat × RV)} {d:Dt} {nm:List Nat} {p:Pic} {c:Int} {k:Nat} (g:Gr rs d nm p c k):∃ (n:Nat) (r:Nat × RV) (ys:List SI),d=.tup (.int (n:Int) :: ys.map SI.d)∧rs[n]?=some r∧nm=r.2.n∧partsK r.1 r.2=ys.map SI.nm∧(∀ y∈ys,Gr rs y.d y.nm y.p y.c y.k∧y.k < k)∧madeP r.1 r.2 (ys.map SI.p)=some p∧c=r.2.c + (ys.map SI.c).sum∧ys.length≤2:=by
 cases g with
 | @cell n v e=>exact ⟨n,(0,v),[],rfl,e,rfl,rfl,fun y hy=>(nomatch hy),rfl,(Int.add_zero _).symm,by simp⟩
 | @turn n v d p c k e g=>
  refine ⟨n,(3,v),[⟨d,v.o1,p,c,0,k⟩],rfl,e,rfl,rfl,fun y hy=>?_,rfl,?_,by simp⟩
  ·rw [List.mem_singleton.mp hy];exact ⟨g,Nat.lt_succ_self _⟩
  ·show v.c + c=v.c + (c + 0)
   rw [Int.add_zero]
 | @pair n kd v d1 d2 p1 p2 p c1 c2 k1 k2 hk e g1 g2 m=>
  refine ⟨n,(kd,v),[⟨d1,v.o1,p1,c1,0,k1⟩,⟨d2,v.o2,p2,c2,0,k2⟩],rfl,e,rfl,?_,fun y hy=>?_,m,?_,by simp⟩
  ·rcases hk with rfl | rfl <;> rfl
  ·rcases List.mem_cons.mp hy with rfl | hy
   ·exact ⟨g1,by show k1 < max k1 k2 + 1;omega⟩
   ·rw [List.mem_singleton.mp hy]
    exact ⟨g2,by show k2 < max k1 k2 + 1;omega⟩
  ·show v.c + (c1 + c2)=v.c + (c1 + (c2 + 0))
   rw [Int.add_zero]
abbrev s_check_form:Stmt:=top 12
def sp_check_form (K:W.Frag) (R:RC) (CG:Addr) (n:Nat):Sp:=fun vs H Q _=>∃ (g:Addr) (v:V) (pl:Addr) (nv:V) (dx:Addr) (sg st:List Nat) (as:List Addr) (rs:List (Nat × RV)) (d:Dt) (nm:List Nat) (p:Pic) (c:Int) (k:Nat) (zs:List V),vs=[.ref g,v,.ref pl,nv]∧GramF R H CG dx g sg st as rs∧rs.length≤24∧TrAt H d v∧Gr rs d nm p c k∧k≤n∧(nv=.non∨nv=.str (tx nm))∧SqT K H pl zs∧zs.length + n≤100∧∀ H',Same H H'→Q .non H'
theorem sc_check_form:FnScope ["grammar","tree","place","name","number","rule","parts","k","part"] ["grammar","tree","place","name"] (defScope s_check_form):=⟨rfl,rfl,rfl,by decide +kernel,rfl,by decide +kernel,by decide +kernel⟩
theorem ok_check_form {R:RC} {f CG C_NoTree:Addr} {fd:FuncData} (F:Fun K "check_form" "check_form" s_check_form f fd) (nb:NB mg) (rk:RKit K R) (m_NoTree:mg "NoTree" = some (.ref C_NoTree)) (xi_NoTree:XI P w K mg base 1 C_NoTree "why") (cp_parts:CalP P w K mg base CX0 1 "parts" (oParts K R)) (cm_rule:CalM P w K mg base CX0 1 CG "rule" ["self","k"] (sp_gram_rule R CG)) (cm_many:CalM P w K mg base CX0 1 CG "many" ["self"] (sp_gram_many R CG)) (hm:mg "check_form" = some (.ref f)) (hk:W.keepIn K (.ref f)=true) (hb:Binds K fd ["grammar","tree","place","name"] []):∀ n,n≤18→FnOk P w K mg base (CX1 P w) (n + 4) f fd ["grammar","tree","place","name"] (sp_check_form K R CG n)
 | 0,_=>by
  refine F.okX sc_check_form (fun vs H Q E h=>?_) (fun cdv A outer s H vs Q E hr h=>?_)
  ·obtain ⟨g,v,pl,nv,dx,sg,st,as,rs,d,nm,p,c,k,zs,rfl,_⟩:=h;rfl
  ·obtain ⟨g,v,pl,nv,dx,sg,st,as,rs,d,nm,p,c,k,zs,rfl,_,_,_,hg,hk0,_⟩:=h
   exfalso
   cases hg <;> omega
 | n + 1,hn=>by
  have sc:=sc_check_form
  have c_check_form:Cal P w K mg base (CX1 P w) (n + 4) "check_form" ["grammar","tree","place","name"] (sp_check_form K R CG n):=⟨f,fd,ok_check_form F nb rk m_NoTree xi_NoTree cp_parts cm_rule cm_many hm hk hb n (by omega),hm,hk,hb⟩
  refine F.okX sc (fun vs H Q E h=>?_) (fun cdv A outer s H vs Q E hr h=>?_)
  ·obtain ⟨g,v,pl,nv,dx,sg,st,as,rs,d,nm,p,c,k,zs,rfl,_⟩:=h;rfl
  ·obtain ⟨g,v,pl,nv,dx,sg,st,as,rs,d,nm,p,c,k,zs,rfl,hG,h24,ht,hg,hkn,hnv,hpl,hz,q⟩:=h
   refine ⟨_,(pss_cons (ps_set (i:=4) sc.nd rfl (Or.inl rfl) (pe_ix ix_tup (pv 1) pe_int (fun _ _=>rfl)))
   (pss_cons (ps_if (PW.pt (pw_or (pt_cmpR op_lt (pv 4) pe_int (nomark _)) (pw_or1 (pt_cmpR op_ge (pv 4) (pe_calM0 cm_many (hr.mono (by omega)) pass0 (pv 0)) (nomark _)))))
   (pss_one (ps_raiseI xi_NoTree (hr.mono (by omega)) rfl rfl m_NoTree (makesI_up fun _ _ _ h=>h) (pa_cons (pe_tup (pa_consS (pa_cons (pv 2) pa_nil))) pa_nil)))
   pss_nil)
   (pss_cons (ps_set (i:=5) sc.nd rfl (Or.inl rfl) (pe_calM cm_rule (hr.mono (by omega)) pass0 (pv 0) (pa_cons (pv 4) pa_nil)))
   (pss_cons (ps_set (i:=6) sc.nd rfl (Or.inl rfl) (pe_calP0 cp_parts (hr.mono (by omega)) pass0 (pv 5)))
   (pss_cons (ps_if (pt_cmpR op_ne (pe_op op_sub (pe_callB call_lenT rfl nb.len bt_len (pa_cons (pv 1) pa_nil)) pe_int) (pe_callB call_lenL rfl nb.len bt_len (pa_cons (pv 6) pa_nil)) (nomark _))
   (pss_one (ps_raiseI xi_NoTree (hr.mono (by omega)) rfl rfl m_NoTree (makesI_up fun _ _ _ h=>h) (pa_cons (pe_tup (pa_consS (pa_cons (pv 2) pa_nil))) pa_nil)))
   pss_nil)
   (pss_cons (ps_if (PW.pt (pw_and (pt_cmpR op_notN (pv 3) pe_non (nomark _)) (pw_and1 (pt_cmpR op_ne (pe_fld (pv 5) rfl) (pv 3) (nomark _)))))
   (pss_one (ps_raiseI xi_NoTree (hr.mono (by omega)) rfl rfl m_NoTree (makesI_up fun _ _ _ h=>h) (pa_cons (pe_tup (pa_consS (pa_cons (pv 2) pa_nil))) pa_nil)))
   pss_nil)
   (pss_one (ps_forw PassesOwn.leaving rfl (pi_enum rfl nb.enumerate (pa_cons (pv 6) pa_nil)) (pg_tup (n:=2) rfl (pgs_cons (pg_name (i:=7) sc.nd rfl (Or.inl rfl)) (pgs_cons (pg_name (i:=8) sc.nd rfl (Or.inl rfl)) pgs_nil)))
   (pss_one (ps_expr (pe_cal (E:=E) c_check_form (hr.mono (by omega)) rfl (passes_up fun _ _ _ h=>h) (pa_cons (pv 0) (pa_cons (pe_ix ix_tup (pv 1) (pe_op op_add (pv 7) pe_int) (fun _ _=>rfl)) (pa_cons (pe_op op_catG (pv 2) (pe_tup (pa_cons (pv 7) pa_nil))) (pa_cons (pv 8) pa_nil))))))))))))))),?_⟩
   obtain ⟨i,r,ys,rfl,hri,rfl,hpar,hsub,hmd,hcc,hyl⟩:=hg.node
   unfold TrAt at ht
   obtain ⟨a,xs,rfl,hta,hts⟩:=ht
   obtain ⟨x0,vs,rfl,hx0,htr⟩:=hts.uncons
   unfold TrAt at hx0
   subst hx0
   have hvl:=htr.length
   have hvl2:vs.length=ys.length:=by rw [hvl,List.length_map]
   have hi:i < rs.length:=(List.getElem?_eq_some_iff.mp hri).1
   refine seq_cut fun N1 h1=>?_
   walk_at "wp"
   refine ⟨_,SqT.of hta,_,atI_0 _ _,h1 _ _ ?_⟩
   clear h1
   refine seq_cut fun N1 h1=>?_
   walk_at "wp"
   obtain ⟨lk,pn,t,ha,hkk,hrs,hN,hmm⟩:=id hG
   rw [if_neg (by omega)]
   refine ⟨_,_,ha,rfl,g,dx,sg,st,as,rs,rfl,hG,?_⟩
   refine ⟨_,rfl,?_⟩
   rw [if_neg (by omega)]
   refine h1 _ _ ?_
   clear h1
   refine seq_cut fun N1 h1=>?_
   walk_at "wp"
   have hlr:i < as.length:=by rw [hrs.1];exact hi
   obtain ⟨b,hb'⟩:∃ b,as[i]?=some b:=⟨_,List.getElem?_eq_getElem hlr⟩
   have hrule:=hrs.2 i b r hb' hri
   refine ⟨_,_,ha,rfl,g,dx,sg,st,as,rs,i,b,rfl,hG,hb',h1 _ _ ?_⟩
   clear h1
   refine seq_cut fun N1 h1=>?_
   walk_at "wp"
   refine parts_any rk hrule fun lp H1 hlp0 hlp s1=>h1 _ _ ?_
   clear h1
   refine seq_cut fun N1 h1=>?_
   walk_at "wp"
   have hpl1:(rowsV (partsK r.1 r.2)).length=ys.length:=by rw [rowsV_length,hpar,List.length_map]
   refine ⟨_,SqT.of (s1 _ _ hta),_,SqL.of hlp,?_⟩
   rw [hpl1,if_neg (by rw [List.length_cons,hvl2];omega)]
   refine h1 _ _ ?_
   clear h1
   refine seq_cut fun N1 h1=>?_
   walk_at "wp"
   obtain ⟨rdx,rl,hrb,hrl⟩:=id hrule
   have go:N1 [some (V.ref g),some (V.ref a),some (V.ref pl),some nv,some (V.int (i:Int)),some (V.ref b),some (V.ref lp),none,none] H1:=by
    refine h1 _ _ ?_
    clear h1
    walk_at "wp"
    refine ⟨_,SqL.of hlp,?_⟩
    refine forw_enum (xs:=rowsV (partsK r.1 r.2)) (fun j σ H'=>Same H H'∧H' lp=some (.lst (rowsV (partsK r.1 r.2)))∧∃ z1 z2,σ=[some (V.ref g),some (V.ref a),some (V.ref pl),some nv,some (V.int (i:Int)),some (V.ref b),some (V.ref lp),z1,z2]) ⟨s1,hlp,_,_,rfl⟩ ?_ ?_ ?_
    ·rintro j σ H' _ ⟨_,h,_⟩
     exact SqL.of h
    ·rintro j x σ H' T hx ⟨sm,hlp',z1,z2,rfl⟩ hT
     have hj:j < ys.length:=by rw [← hpl1];exact (List.getElem?_eq_some_iff.mp hx).1
     have hx':x=V.str (tx ys[j].nm):=by
      rw [hpar] at hx
      rw [rowsV_get (by rw [List.length_map];exact hj),List.getElem_map] at hx
      exact (Option.some.inj hx).symm
     subst hx'
     have sT:=same_upd (o:=.tup [V.int (j:Int),V.str (tx ys[j].nm)]) hT
     have eT:upd H' T (.tup [V.int (j:Int),V.str (tx ys[j].nm)]) T=some (.tup [V.int (j:Int),V.str (tx ys[j].nm)]):=upd_same
     generalize upd H' T (.tup [V.int (j:Int),V.str (tx ys[j].nm)])=H2 at sT eT ⊢
     have sm2:=sm.trans sT
     have hjv:j < vs.length:=by omega
     have hvj:vs[j]?=some vs[j]:=List.getElem?_eq_getElem hjv
     obtain ⟨d',hd',ht'⟩:=trAts_get htr hvj
     rw [List.getElem?_map,List.getElem?_eq_getElem hj] at hd'
     cases hd'
     obtain ⟨hgj,hkj⟩:=hsub ys[j] (List.getElem_mem hj)
     walk_at "wp"
     refine ⟨_,SqT.of eT,rfl,_,_,rfl,_,_,rfl,rfl,?_⟩
     refine ⟨_,rfl,_,SqT.of (sm2 _ _ hta),_,show atI (V.int (i:Int) :: vs) (((j + 1:Nat)):Int)=some vs[j] from atI_nat (by rw [List.getElem?_cons_succ];exact hvj),line_le (by decide),fun p1 hp1=>?_⟩
     have s3:=sm2.trans (same_upd (o:=.tup [V.int (j:Int)]) hp1)
     have sL:=sT.trans (same_upd (o:=.tup [V.int (j:Int)]) hp1)
     have e3:upd H2 p1 (.tup [V.int (j:Int)]) p1=some (.tup [V.int (j:Int)]):=upd_same
     generalize upd H2 p1 (.tup [V.int (j:Int)])=H3 at s3 e3 sL ⊢
     refine ⟨_,s3.sqT hpl,_,SqT.of e3,by simp;exact line_le (by omega),fun pp H4 hpp s4=>?_⟩
     have s5:=s3.trans s4
     refine ⟨g,vs[j],pp,_,dx,sg,st,as,rs,ys[j].d,ys[j].nm,ys[j].p,ys[j].c,ys[j].k,_,rfl,hG.up s5,h24,ht'.up (TupS.of s5) _,hgj,by omega,.inr rfl,hpp,by simp;omega,fun H5 s6=>⟨s5.trans s6,s6 _ _ (s4 _ _ (sL _ _ hlp'))⟩⟩
    ·rintro σ H' ⟨sm,hlp',z1,z2,rfl⟩
     exact q H' sm
   rcases hnv with rfl | rfl
   ·rw [if_neg (fun e=>e rfl)]
    exact go
   ·rw [if_pos (fun e=>by cases e)]
    refine ⟨_,_,_,s1 _ _ hrb,(rk.icls r.1).cl,(rk.name r.1).1,_,(fldK_lk rl r.2 r.1).1,rfl,?_⟩
    rw [if_neg (fun e=>e rfl)]
    exact go
theorem fits_of {k:Nat} {v:RV} {ys:List SI} (hk:k < 4) (hp:partsK k v=ys.map SI.nm) (h6:∀ y∈ys,∃ r c,Pic6 y.p r c):Fits k (ys.map SI.p):=by
 have hl:=congrArg List.length hp
 rw [List.length_map] at hl
 match k,hk with
 | 0,_=>
  have h0:ys.length=0:=hl.symm
  rw [List.length_eq_zero_iff.mp h0]
  exact .cell
 | 1,_=>
  match ys,(show ys.length=2 from hl.symm),h6 with
  | [x,y],_,h6=>
   obtain ⟨r,c,h⟩:=h6 x (by simp)
   obtain ⟨r',c',h'⟩:=h6 y (by simp)
   exact .beside h h'
 | 2,_=>
  match ys,(show ys.length=2 from hl.symm),h6 with
  | [x,y],_,h6=>
   obtain ⟨r,c,h⟩:=h6 x (by simp)
   obtain ⟨r',c',h'⟩:=h6 y (by simp)
   exact .above h h'
 | 3,_=>
  match ys,(show ys.length=1 from hl.symm),h6 with
  | [x],_,h6=>
   obtain ⟨r,c,h⟩:=h6 x (by simp)
   exact .turn h
abbrev s_lay:Stmt:=top 13
def sp_lay (K:W.Frag) (R:RC) (CG:Addr) (n:Nat):Sp:=fun vs H Q _=>∃ (g:Addr) (v:V) (pl:Addr) (dx:Addr) (sg st:List Nat) (as:List Addr) (rs:List (Nat × RV)) (d:Dt) (nm:List Nat) (p:Pic) (c:Int) (k:Nat) (zs:List V),vs=[.ref g,v,.ref pl]∧GramF R H CG dx g sg st as rs∧(∀ r∈rs,GoodR r)∧TrAt H d v∧Gr rs d nm p c k∧k≤n∧SqT K H pl zs∧zs.length + n≤100∧GivesPic H p Q
theorem sc_lay:FnScope ["grammar","tree","place","pictures","k","part"] ["grammar","tree","place"] (defScope s_lay):=⟨rfl,rfl,rfl,by decide +kernel,rfl,by decide +kernel,by decide +kernel⟩
theorem ok_lay {R:RC} {f CG CF:Addr} {fd:FuncData} (F:Fun K "lay" "lay" s_lay f fd) (nb:NB mg) (cp_made:CalP P w K mg base (CX1 P w) 4 "made" (oMade K R CF)) (cm_rule:CalM P w K mg base CX0 1 CG "rule" ["self","k"] (sp_gram_rule R CG)) (hm:mg "lay" = some (.ref f)) (hk:W.keepIn K (.ref f)=true) (hb:Binds K fd ["grammar","tree","place"] []):∀ n,n≤18→FnOk P w K mg base CX0 (n + 5) f fd ["grammar","tree","place"] (sp_lay K R CG n)
 | 0,_=>by
  refine F.ok sc_lay (fun vs H Q E h=>?_) (fun cdv A outer s H vs Q E hr h=>?_)
  ·obtain ⟨g,v,pl,dx,sg,st,as,rs,d,nm,p,c,k,zs,rfl,_⟩:=h;rfl
  ·obtain ⟨g,v,pl,dx,sg,st,as,rs,d,nm,p,c,k,zs,rfl,_,_,_,hg,hk0,_⟩:=h
   exfalso
   cases hg <;> omega
 | n + 1,hn=>by
  have sc:=sc_lay
  have c_lay:Cal P w K mg base CX0 (n + 5) "lay" ["grammar","tree","place"] (sp_lay K R CG n):=⟨f,fd,ok_lay F nb cp_made cm_rule hm hk hb n (by omega),hm,hk,hb⟩
  refine F.ok sc (fun vs H Q E h=>?_) (fun cdv A outer s H vs Q E hr h=>?_)
  ·obtain ⟨g,v,pl,dx,sg,st,as,rs,d,nm,p,c,k,zs,rfl,_⟩:=h;rfl
  ·obtain ⟨g,v,pl,dx,sg,st,as,rs,d,nm,p,c,k,zs,rfl,hG,hgd,ht,hg,hkn,hpl,hz,q⟩:=h
   refine ⟨_,(pss_cons (ps_set (i:=3) sc.nd rfl (Or.inl rfl) (pe_lst pa_nil))
   (pss_cons (ps_forw PassesOwn.never rfl (pi_enumT rfl nb.enumerate (pa_cons (pe_slice sl_tup (pv 1) (po_some pe_int) po_none) pa_nil)) (pg_tup (n:=2) rfl (pgs_cons (pg_name (i:=4) sc.nd rfl (Or.inl rfl)) (pgs_cons (pg_name (i:=5) sc.nd rfl (Or.inl rfl)) pgs_nil)))
   (pss_one (ps_expr (pe_bm PySem.F.plainAttrs_list PySem.F.slot_list_append PySem.F.type_list_append mt_append (pv 3) (pa_cons (pe_cal c_lay (hr.mono (by omega)) rfl pass0 (pa_cons (pv 0) (pa_cons (pv 5) (pa_cons (pe_op op_catG (pv 2) (pe_tup (pa_cons (pv 4) pa_nil))) pa_nil)))) pa_nil)))))
   (pss_one (ps_try_calm (pss_one (ps_ret (pe_calP (CX:=CX1 P w) cp_made (hr.mono (by omega)) passes_E0 (pe_calM cm_rule (hr.mono (by omega)) pass0 (pv 0) (pa_cons (pe_ix ix_tup (pv 1) pe_int (fun _ _=>rfl)) pa_nil)) (pa_cons (pv 3) pa_nil)))))))),?_⟩
   obtain ⟨i,r,ys,rfl,hri,rfl,hpar,hsub,hmd,hcc,hyl⟩:=hg.node
   unfold TrAt at ht
   obtain ⟨a,xs,rfl,hta,hts⟩:=ht
   obtain ⟨x0,vs,rfl,hx0,htr⟩:=hts.uncons
   unfold TrAt at hx0
   subst hx0
   have hvl:=htr.length
   have hvl2:vs.length=ys.length:=by rw [hvl,List.length_map]
   have hi:i < rs.length:=(List.getElem?_eq_some_iff.mp hri).1
   refine seq_cut fun N1 h1=>?_
   walk_at "wp"
   refine ⟨Nat.zero_le _,fun l hl=>h1 _ _ ?_⟩
   clear h1
   refine seq_cut fun N1 h1=>?_
   walk_at "wp"
   have s1:=same_upd (o:=.lst []) hl
   have e1:upd H l (.lst []) l=some (.lst []):=upd_same
   generalize upd H l (.lst [])=H1 at s1 e1 ⊢
   refine ⟨_,SqT.of (s1 _ _ hta),cut1_ne _ _,fun pt hpt=>?_⟩
   rw [cut1]
   have s2:=s1.trans (same_upd (o:=.tup vs) hpt)
   have e2:=same_upd (o:=.tup vs) hpt _ _ e1
   have ep:upd H1 pt (.tup vs) pt=some (.tup vs):=upd_same
   generalize upd H1 pt (.tup vs)=H2 at s2 e2 ep ⊢
   have hne:∀ y∈ys,y.p≠[]:=fun y hy e=>by
    obtain ⟨r',c',h6⟩:=(hsub y hy).1.pic6 hgd
    have:=h6.rc.1;have:=h6.r0;rw [e] at *;simp at *;omega
   refine ⟨_,SqT.of ep,?_⟩
   refine forw_enumT (xs:=vs) (fun j σ H'=>Same H H'∧H' pt=some (.tup vs)∧(∃ bs:List Addr,H' l=some (.lst (bs.map V.ref))∧bs.length=j∧∀ (m:Nat) b y,bs[m]?=some b→ys[m]?=some y→H' b=some (.lst (rowsV y.p)))∧∃ z1 z2,σ=[some (V.ref g),some (V.ref a),some (V.ref pl),some (V.ref l),z1,z2]) ⟨s2,ep,⟨[],e2,rfl,fun m b y h=>by simp at h⟩,_,_,rfl⟩ ?_ ?_ ?_
   ·rintro j σ H' _ ⟨_,h,_⟩
    exact SqT.of h
   ·rintro j x σ H' T hx ⟨sm,hpt',⟨bs,hbs,hbl,hbat⟩,z1,z2,rfl⟩ hT
    have hjv:j < vs.length:=(List.getElem?_eq_some_iff.mp hx).1
    have hj:j < ys.length:=by omega
    have sT:=same_upd (o:=.tup [V.int (j:Int),x]) hT
    have eT:upd H' T (.tup [V.int (j:Int),x]) T=some (.tup [V.int (j:Int),x]):=upd_same
    generalize upd H' T (.tup [V.int (j:Int),x])=H3 at sT eT ⊢
    obtain ⟨d',hd',ht'⟩:=trAts_get htr hx
    rw [List.getElem?_map,List.getElem?_eq_getElem hj] at hd'
    cases hd'
    obtain ⟨hgj,hkj⟩:=hsub ys[j] (List.getElem_mem hj)
    have sm3:=sm.trans sT
    walk_at "wp"
    refine ⟨_,SqT.of eT,rfl,_,_,rfl,_,_,rfl,rfl,.inl ⟨rfl,_,SqL.of (sT _ _ hbs)⟩,line_le (by decide),fun p1 hp1=>?_⟩
    have sU:=same_upd (o:=.tup [V.int (j:Int)]) hp1
    have eU:upd H3 p1 (.tup [V.int (j:Int)]) p1=some (.tup [V.int (j:Int)]):=upd_same
    generalize upd H3 p1 (.tup [V.int (j:Int)])=H4 at sU eU ⊢
    have s4:=sm3.trans sU
    refine ⟨_,s4.sqT hpl,_,SqT.of eU,by simp;exact line_le (by omega),fun pp H5 hpp s5=>?_⟩
    have s6:=s4.trans s5
    have sT5:=(sT.trans sU).trans s5
    refine ⟨g,x,pp,dx,sg,st,as,rs,ys[j].d,ys[j].nm,ys[j].p,ys[j].c,ys[j].k,_,rfl,hG.up s6,hgd,ht'.up (TupS.of s6) _,hgj,by omega,hpp,by simp;omega,fun lq H6 hlq0 hlq s7=>?_⟩
    have sT6:=sT5.trans s7
    have hl6:=sT6 _ _ hbs
    refine ⟨_,hl6,by rw [List.length_map];exact line_big (by omega),same_upd2 (s6.trans s7) hl,?_,bs ++ [lq],by rw [upd_same];simp,by simp [hbl],fun m b y hb1 hy1=>?_⟩
    ·rw [upd_ne (fun e=>by rw [e,hbs] at hpt';cases hpt')]
     exact sT6 _ _ hpt'
    ·have hym:=List.mem_of_getElem? hy1
     have hb6:H6 b=some (.lst (rowsV y.p)):=by
      by_cases hm':m < bs.length
      ·rw [List.getElem?_append_left hm'] at hb1
       exact sT6 _ _ (hbat m b y hb1 hy1)
      ·rw [List.getElem?_append_right (by omega)] at hb1
       have hm2:m=bs.length:=by
        have:=(List.getElem?_eq_some_iff.mp hb1).1
        simp at this
        omega
       subst hm2
       rw [Nat.sub_self] at hb1
       cases hb1
       rw [hbl,List.getElem?_eq_getElem hj] at hy1
       cases hy1
       exact hlq
     rw [upd_ne (pic_ne hl6 hb6 (hne y hym))]
     exact hb6
   ·rintro σ H' ⟨sm,hpt',⟨bs,hbs,hbl,hbat⟩,z1,z2,rfl⟩
    refine h1 _ _ ?_
    walk_at "wp"
    obtain ⟨lk,pn,t,ha,hkk,hrs,hN,hmm⟩:=id (hG.up sm)
    have hlr:i < as.length:=by rw [hrs.1];exact hi
    obtain ⟨b,hb'⟩:∃ b,as[i]?=some b:=⟨_,List.getElem?_eq_getElem hlr⟩
    have hrule:=hrs.2 i b r hb' hri
    have hgr:=hgd r (List.mem_of_getElem? hri)
    rw [hvl2] at hbl
    have hpics:PicsAt H' l bs (ys.map SI.p):=⟨hbs,by rw [hbl,List.length_map],fun m h1 h2=>by
     rw [List.getElem_map]
     exact hbat m _ _ (List.getElem?_eq_getElem h1) (List.getElem?_eq_getElem (by omega))⟩
    refine ⟨_,_,ha,rfl,_,SqT.of (sm _ _ hta),_,atI_0 _ _,g,dx,sg,st,as,rs,i,b,rfl,hG.up sm,hb',?_⟩
    obtain ⟨o,ho,mdx,mfs,k1,k2,k3⟩:=made_any (K:=K) (CF:=CF) (E:=fun _ _ _=>False) (Q:=Q) hrule (hgr.good.ok r.1) hpics (fits_of hgr.k4 hpar fun y hy=>(hsub y hy).1.pic6 hgd) (fun p' hp'=>by
     rw [hmd] at hp'
     cases hp'
     exact fun lq H7 h0 h7 s7=>q lq H7 (same_no sm h0) h7 (sm.trans s7)) (fun e=>by rw [hmd] at e;cases e)
    exact ⟨o,ho,b,rfl,mdx,mfs,k1,k2,k3⟩
abbrev s_laid:Stmt:=top 9
def LaidAt (R:RC) (CG:Addr) (H:Hp) (g:Addr) (v:V) (rs:List (Nat × RV)) (d:Dt) (p:Pic) (c:Int):Prop:=∃ (dx:Addr) (sg st:List Nat) (as:List Addr) (nm:List Nat) (k:Nat),GramF R H CG dx g sg st as rs∧(∀ r∈rs,GoodR r)∧rs.length≤24∧TrAt H d v∧Gr rs d nm p c k∧k≤18
theorem LaidAt.up {R:RC} {CG:Addr} {H H':Hp} {g:Addr} {v:V} {rs:List (Nat × RV)} {d:Dt} {p:Pic} {c:Int} (h:LaidAt R CG H g v rs d p c) (s:Same H H'):LaidAt R CG H' g v rs d p c:=by
 obtain ⟨dx,sg,st,as,nm,k,h1,h2,h3,h4,h5,h6⟩:=h
 exact ⟨dx,sg,st,as,nm,k,h1.up s,h2,h3,h4.up (TupS.of s) _,h5,h6⟩
def sp_laid (R:RC) (CG:Addr):Sp:=fun vs H Q _=>∃ (g:Addr) (v:V) (rs:List (Nat × RV)) (d:Dt) (p:Pic) (c:Int),vs=[.ref g,v]∧LaidAt R CG H g v rs d p c∧GivesPic H p Q
theorem sc_laid:FnScope ["grammar","tree"] ["grammar","tree"] (defScope s_laid):=⟨rfl,rfl,rfl,by decide +kernel,rfl,by decide +kernel,by decide +kernel⟩
theorem ok_laid {R:RC} {f CG:Addr} {fd:FuncData} (F:Fun K "laid" "laid" s_laid f fd) (nb:NB mg) (c_check_form:Cal P w K mg base (CX1 P w) 22 "check_form" ["grammar","tree","place","name"] (sp_check_form K R CG 18)) (c_lay:Cal P w K mg base CX0 23 "lay" ["grammar","tree","place"] (sp_lay K R CG 18)):FnOk P w K mg base CX0 24 f fd ["grammar","tree"] (sp_laid R CG):=by
 have sc:=sc_laid
 refine F.ok sc (fun vs H Q E h=>?_) (fun cdv A outer s H vs Q E hr h=>?_)
 ·obtain ⟨g,v,rs,d,p,c,rfl,_⟩:=h;rfl
 ·obtain ⟨g,v,rs,d,p,c,rfl,⟨dx,sg,st,as,nm,k,hG,hgd,h24,ht,hg,hk⟩,q⟩:=h
  refine ⟨_,(pss_cons (ps_expr (pe_cal (CX:=CX1 P w) c_check_form (hr.mono (by decide)) rfl passes_E0 (pa_cons (pv 0) (pa_cons (pv 1) (pa_cons (pe_tup pa_nil) (pa_cons pe_non pa_nil))))))
   (pss_one (ps_ret (pe_cal c_lay (hr.mono (by decide)) rfl pass0 (pa_cons (pv 0) (pa_cons (pv 1) (pa_cons (pe_tup pa_nil) pa_nil))))))),?_⟩
  walk_at "wp"
  refine ⟨Nat.zero_le _,fun p1 hp1=>?_⟩
  have s1:=same_upd (o:=.tup []) hp1
  refine ⟨g,v,p1,_,dx,sg,st,as,rs,d,nm,p,c,k,[],rfl,hG.up s1,h24,ht.up (TupS.of s1) _,hg,hk,.inl rfl,SqT.of upd_same,by simp,fun H2 s2=>⟨Nat.zero_le _,fun p2 hp2=>?_⟩⟩
  have s3:=(s1.trans s2).trans (same_upd (o:=.tup []) hp2)
  exact ⟨g,v,p2,dx,sg,st,as,rs,d,nm,p,c,k,[],rfl,hG.up s3,hgd,ht.up (TupS.of s3) _,hg,hk,SqT.of upd_same,by simp,fun l H4 h0 h4 s4=>q l H4 (same_no s3 h0) h4 (s3.trans s4)⟩
abbrev s_tree_fault:Stmt:=top 8
def sp_tree_fault (R:RC) (CG:Addr):Sp:=fun vs H Q _=>∃ (g:Addr) (v:V) (rs:List (Nat × RV)) (d:Dt) (p:Pic) (c:Int),vs=[.ref g,v]∧LaidAt R CG H g v rs d p c∧∀ H',Same H H'→Q .non H'
theorem sc_tree_fault:FnScope ["grammar","tree","e"] ["grammar","tree"] (defScope s_tree_fault):=⟨rfl,rfl,rfl,by decide +kernel,rfl,by decide +kernel,by decide +kernel⟩
theorem ok_tree_fault {R:RC} {f CG:Addr} {fd:FuncData} (F:Fun K "tree_fault" "tree_fault" s_tree_fault f fd) (nb:NB mg) (c_laid:Cal P w K mg base CX0 24 "laid" ["grammar","tree"] (sp_laid R CG)):FnOk P w K mg base CX0 25 f fd ["grammar","tree"] (sp_tree_fault R CG):=by
 have sc:=sc_tree_fault
 refine F.ok sc (fun vs H Q E h=>?_) (fun cdv A outer s H vs Q E hr h=>?_)
 ·obtain ⟨g,v,rs,d,p,c,rfl,_⟩:=h;rfl
 ·obtain ⟨g,v,rs,d,p,c,rfl,hL,q⟩:=h
  refine ⟨_,(pss_cons (ps_try_calm (pss_one (ps_expr (pe_cal c_laid (hr.mono (by decide)) rfl pass0 (pa_cons (pv 0) (pa_cons (pv 1) pa_nil))))))
   (pss_one (ps_ret pe_non))),?_⟩
  walk_at "wp"
  exact ⟨g,v,rs,d,p,c,rfl,hL,fun l H1 _ _ s1=>q H1 s1⟩
def costN (rs:List (Nat × RV)) (i:Int):Int:=match rs[i.toNat]? with | some r=>r.2.c | none=>0
theorem Gr.sh {rs:List (Nat × RV)}:∀ {k:Nat} {d:Dt} {nm:List Nat} {p:Pic} {c:Int},Gr rs d nm p c k→∃ ns:List Int,Sh k d ns∧(ns.map (costN rs)).sum=c∧∀ i∈ns,0≤i∧i < rs.length:=by
 intro k d nm p c g
 induction g with
 | @cell n v e=>
  have hn:=(List.getElem?_eq_some_iff.mp e).1
  refine ⟨[(n:Int)],⟨n,[],[],rfl,rfl,rfl,by simp,fun j d' ns' h=>by simp at h⟩,?_,fun i hi=>?_⟩
  ·show costN rs (n:Int) + 0=v.c
   unfold costN
   rw [Int.toNat_natCast,e,Int.add_zero]
  ·rw [List.mem_singleton.mp hi];omega
 | @turn n v d p c k e g ih=>
  obtain ⟨ns,h1,h2,h3⟩:=ih
  have hn:=(List.getElem?_eq_some_iff.mp e).1
  refine ⟨(n:Int) :: ns,⟨n,[d],[ns],rfl,by simp,rfl,by simp,fun j d' ns' e1 e2=>?_⟩,?_,fun i hi=>?_⟩
  ·match j,e1,e2 with
   | 0,e1,e2=>cases e1;cases e2;exact h1
   | j + 1,e1,_=>simp at e1
  ·rw [List.map_cons,List.sum_cons,h2]
   unfold costN
   rw [Int.toNat_natCast,e]
  ·rcases List.mem_cons.mp hi with rfl | hi
   ·omega
   ·exact h3 i hi
 | @pair n kd v d1 d2 p1 p2 p c1 c2 k1 k2 hk e g1 g2 m ih1 ih2=>
  obtain ⟨ns1,h1,h2,h3⟩:=ih1
  obtain ⟨ns2,h4,h5,h6⟩:=ih2
  have hn:=(List.getElem?_eq_some_iff.mp e).1
  refine ⟨(n:Int) :: (ns1 ++ ns2),⟨n,[d1,d2],[ns1,ns2],rfl,by simp,rfl,by simp,fun j d' ns' e1 e2=>?_⟩,?_,fun i hi=>?_⟩
  ·match j,e1,e2 with
   | 0,e1,e2=>cases e1;cases e2;exact h1.mono (by omega)
   | 1,e1,e2=>cases e1;cases e2;exact h4.mono (by omega)
   | j + 2,e1,_=>simp at e1
  ·rw [List.map_cons,List.sum_cons,List.map_append,List.sum_append,h2,h5]
   unfold costN
   rw [Int.toNat_natCast,e]
  ·rcases List.mem_cons.mp hi with rfl | hi
   ·omega
   ·rcases List.mem_append.mp hi with hi | hi
    ·exact h3 i hi
    ·exact h6 i hi
abbrev s_cost_of:Stmt:=top 10
def sp_cost_of (R:RC) (CG:Addr):Sp:=fun vs H Q _=>∃ (g:Addr) (v:V) (rs:List (Nat × RV)) (d:Dt) (p:Pic) (c:Int),vs=[.ref g,v]∧LaidAt R CG H g v rs d p c∧∀ H',Same H H'→Q (.int c) H'
theorem sc_cost_of:FnScope ["grammar","tree"] ["grammar","tree"] (defScope s_cost_of):=⟨rfl,rfl,rfl,by decide +kernel,rfl,by decide +kernel,by decide +kernel⟩
theorem ok_cost_of {R:RC} {f CG:Addr} {fd:FuncData} (F:Fun K "cost_of" "cost_of" s_cost_of f fd) (nb:NB mg) (nbsum:mg "sum" = none) (rk:RKit K R) (cm_rule:CalM P w K mg base CX0 1 CG "rule" ["self","k"] (sp_gram_rule R CG)) (c_laid:Cal P w K mg base CX0 24 "laid" ["grammar","tree"] (sp_laid R CG)) (c_numbers_in:Cal P w K mg base CX0 19 "numbers_in" ["tree"] (sp_numbers_in 18)):FnOk P w K mg base CX0 25 f fd ["grammar","tree"] (sp_cost_of R CG):=by
 have sc:=sc_cost_of
 refine F.ok sc (fun vs H Q E h=>?_) (fun cdv A outer s H vs Q E hr h=>?_)
 ·obtain ⟨g,v,rs,d,p,c,rfl,_⟩:=h;rfl
 ·obtain ⟨g,v,rs,d,p,c,rfl,hL,q⟩:=h
  refine ⟨_,(pss_cons (ps_expr (pe_cal c_laid (hr.mono (by decide)) rfl pass0 (pa_cons (pv 0) (pa_cons (pv 1) pa_nil))))
   (pss_one (ps_ret (pe_callB (call_sumL rfl) rfl nbsum bt_sum (pa_cons (pe_comp ["number"] [0] rfl (CompOk.of (by kernel_rfl)) (by kernel_rfl) (pi_list (pe_cal c_numbers_in (hr.mono (by decide)) rfl pass0 (pa_cons (pv 1) pa_nil)))
    (fun _ _ _ _=>(pg_name (i:=0) (by show (["number","grammar"]:List Str).Nodup;decide +kernel) rfl (Or.inl rfl))) (fun _ _ _ _=>pif_nil) (fun _ _ _ _=>(pe_fldK (K:=K) rfl (pe_calM cm_rule (hr.mono (by decide)) pass0 (pv 1) (pa_cons (pv 0) pa_nil)) rfl))) pa_nil))))),?_⟩
  walk_at "wp"
  refine ⟨g,v,rs,d,p,c,rfl,hL,fun l0 H1 _ _ s1=>?_⟩
  have hL1:=hL.up s1
  obtain ⟨dx,sg,st,as,nm,k,hG,hgd,h24,ht,hg,hk⟩:=id hL1
  obtain ⟨ns,hsh,hsum,hns⟩:=hg.sh
  refine ⟨v,d,ns,rfl,ht,hsh.mono hk,fun l H2 hl0 hl s2=>?_⟩
  walk_at "wp"
  have hG2:=hG.up s2
  have hlen:ns.length < 262145:=by
   have h:=(hsh.mono hk).len
   have:(2:Nat) ^ 18=262144:=by decide
   omega
  refine ⟨⟨_,SqL.of hl⟩,?_⟩
  refine comp_listF (as:=ns) (emb:=V.int) (f:=fun i=>some (V.int (costN rs i))) (fun σ=>∃ z,σ=[z,some (V.ref g)]) ⟨_,rfl⟩ (fun H' s=>SqL.of (s _ _ hl)) (by omega) ?_ ?_
  ·rintro j i hj σ H' N1 N0 ⟨z0,rfl⟩ s3 k1 _
   obtain ⟨hi0,hi1⟩:=hns i (List.mem_of_getElem? hj)
   obtain ⟨n,rfl⟩:∃ n:Nat,i=(n:Int):=⟨i.toNat,by omega⟩
   have hn:n < rs.length:=by omega
   obtain ⟨r,hri⟩:∃ r,rs[n]?=some r:=⟨_,List.getElem?_eq_getElem hn⟩
   have hG3:=hG2.up s3
   obtain ⟨lk,pn,t,ha,hkk,hrs,hN,hmm⟩:=id hG3
   have hlr:n < as.length:=by rw [hrs.1];exact hn
   obtain ⟨b,hb'⟩:∃ b,as[n]?=some b:=⟨_,List.getElem?_eq_getElem hlr⟩
   obtain ⟨rdx,rl,hrb,hrl⟩:=hrs.2 n b r hb' hri
   walk_at "wp"
   refine ⟨_,_,ha,rfl,g,dx,sg,st,as,rs,n,b,rfl,hG3,hb',_,rfl,_,_,_,hrb,(rk.icls r.1).cl,(rk.name r.1).2.1,_,(fldK_lk rl r.2 r.1).2.1,k1 _ _ _ ?_ s3 ⟨_,rfl⟩⟩
   unfold costN
   rw [Int.toNat_natCast,hri]
  ·intro H3 s3 l2 hl2
   rw [fm_all ns _ (g:=fun i=>V.int (costN rs i)) (fun _ _=>rfl)]
   refine ⟨ns.map (costN rs),by rw [List.map_map];exact SqL.of upd_same,?_⟩
   rw [hsum]
   exact q _ (((s1.trans s2).trans s3).trans (same_upd hl2))
structure ShP (ds:List Dt) (nss:List (List Int)):Prop where
 len:ds.length=nss.length
 sh:∀ (j:Nat) d ns,ds[j]?=some d→nss[j]?=some ns→Sh 18 d ns
theorem ShP.app {ds es:List Dt} {nss mss:List (List Int)} (h:ShP ds nss) (k:ShP es mss):ShP (ds ++ es) (nss ++ mss):=by
 refine ⟨by rw [List.length_append,List.length_append,h.len,k.len],fun j d ns e1 e2=>?_⟩
 have hl:=h.len
 by_cases hj:j < ds.length
 ·rw [List.getElem?_append_left hj] at e1
  rw [List.getElem?_append_left (by omega)] at e2
  exact h.sh j d ns e1 e2
 ·rw [List.getElem?_append_right (by omega)] at e1
  rw [List.getElem?_append_right (by omega),← hl] at e2
  exact k.sh _ d ns e1 e2
theorem ShP.tail {d:Dt} {ds:List Dt} {ns:List Int} {nss:List (List Int)} (h:ShP (d :: ds) (ns :: nss)):ShP ds nss:=⟨by simpa using h.len,fun j d' ns' e1 e2=>h.sh (j + 1) d' ns' (by simpa using e1) (by simpa using e2)⟩
theorem ShP.le:∀ {ds:List Dt} {nss:List (List Int)},ShP ds nss→ds.length≤nss.flatten.length
 | [],_,_=>Nat.zero_le _
 | d :: ds,[],h=>absurd h.len (by simp)
 | d :: ds,ns :: nss,h=>by
  have h1:=h.tail.le
  obtain ⟨i,es,mss,e1,e2,_⟩:=h.sh 0 d ns rfl rfl
  rw [List.flatten_cons,List.length_append,e2,List.length_cons,List.length_cons]
  omega
theorem rev_last5 {α:Type} (y:α) (ys:List α):(y :: ys).reverse[(y :: ys).reverse.length - 1]?=some y∧(y :: ys).reverse.dropLast=ys.reverse:=by
 constructor
 ·rw [List.reverse_cons,List.length_append]
  simp
 ·rw [List.reverse_cons,List.dropLast_concat]
def NW (H:Hp) (v:V) (lf ll:Addr) (ns:List Int) (m:Nat) (σ:St) (H':Hp):Prop:=Same H H'∧(∃ (vs:List V) (ds:List Dt) (nss:List (List Int)) (dn:List Int),H' ll=some (.lst vs.reverse)∧TrAts H' ds vs∧ShP ds nss∧H' lf=some (.lst (dn.map V.int))∧dn ++ nss.flatten=ns∧m=nss.flatten.length)∧∃ z,σ=[some v,some (V.ref lf),some (V.ref ll),z]
abbrev s_l_numbers:Stmt:=top 59
def sp_l_numbers:Sp:=fun vs H Q _=>∃ (v:V) (d:Dt) (ns:List Int) (k:Nat),vs=[v]∧TrAt H d v∧Sh k d ns∧k≤18∧∀ l H',H l=none→H' l=some (.lst (ns.map V.int))→Same H H'→Q (.ref l) H'
theorem sc_l_numbers:FnScope ["_law_tree","_law_found","_law_left","_law_here"] ["_law_tree"] (defScope s_l_numbers):=⟨rfl,rfl,rfl,by decide +kernel,rfl,by decide +kernel,by decide +kernel⟩
theorem ok_l_numbers {f:Addr} {fd:FuncData} (F:Fun K "_law_numbers" "_law_numbers" s_l_numbers f fd) (nb:NB mg):FnOk P w K mg base CX0 1 f fd ["_law_tree"] sp_l_numbers:=by
 have sc:=sc_l_numbers
 refine F.ok sc (fun vs H Q E h=>?_) (fun cdv A outer s H vs Q E hr h=>?_)
 ·obtain ⟨v,d,ns,k,rfl,_⟩:=h;rfl
 ·obtain ⟨v,d,ns,k,rfl,ht,hsh,hk,q⟩:=h
  refine ⟨_,(pss_cons (ps_set (i:=1) sc.nd rfl (Or.inl rfl) (pe_lst pa_nil))
   (pss_cons (ps_set (i:=2) sc.nd rfl (Or.inl rfl) (pe_lst (pa_cons (pv 0) pa_nil)))
   (pss_cons (ps_while PassesOwn.never (pt_cmpR op_gt (pe_callB call_lenL rfl nb.len bt_len (pa_cons (pv 2) pa_nil)) pe_int (nomark _)) (pss_cons (ps_set (i:=3) sc.nd rfl (Or.inl rfl) (pe_bm0 PySem.F.plainAttrs_list PySem.F.slot_list_pop PySem.F.type_list_pop mt_pop (pv 2)))
   (pss_cons (ps_expr (pe_bm PySem.F.plainAttrs_list PySem.F.slot_list_append PySem.F.type_list_append mt_append (pv 1) (pa_cons (pe_ix ix_tup (pv 3) pe_int (fun _ _=>rfl)) pa_nil)))
   (pss_one (ps_expr (pe_bm PySem.F.plainAttrs_list PySem.F.slot_list_extend PySem.F.type_list_extend mt_extend (pv 2) (pa_cons (pe_listrev rfl (pe_slice sl_tup (pv 3) (po_some pe_int) po_none) rfl nb.list rfl nb.reversed) pa_nil)))))))
   (pss_one (ps_ret (pv 1)))))),?_⟩
  refine seq_cut fun N1 h1=>?_
  walk_at "wp"
  refine ⟨Nat.zero_le _,fun lf hlf=>h1 _ _ ?_⟩
  clear h1
  refine seq_cut fun N1 h1=>?_
  walk_at "wp"
  refine ⟨line_le (by decide),fun ll hll=>h1 _ _ ?_⟩
  clear h1
  refine seq_cut fun N1 h1=>?_
  walk_at "wp"
  have s1:=(same_upd (o:=.lst []) hlf).trans (same_upd (o:=.lst [v]) hll)
  have ef:upd (upd H lf (.lst [])) ll (.lst [v]) lf=some (.lst []):=same_upd hll _ _ upd_same
  have el:upd (upd H lf (.lst [])) ll (.lst [v]) ll=some (.lst [v]):=upd_same
  have hne:lf≠ll:=fun e=>by rw [← e,upd_same] at hll;cases hll
  have hll0:H ll=none:=same_no (same_upd hlf) hll
  generalize upd (upd H lf (.lst [])) ll (.lst [v])=H1 at s1 ef el ⊢
  have hlen:ns.length < 262145:=by
   have h:=(hsh.mono hk).len
   have:(2:Nat) ^ 18=262144:=by decide
   omega
  refine ⟨NW H v lf ll ns,⟨_,s1,⟨[v],[d],[ns],[],el,TrAts.cons (ht.up (TupS.of s1) _) TrAts.nil,⟨rfl,fun j d' ns' e1 e2=>?_⟩,ef,by simp,rfl⟩,_,rfl⟩,?_⟩
  ·match j,e1,e2 with
   | 0,e1,e2=>cases e1;cases e2;exact hsh.mono hk
   | j + 1,e1,_=>simp at e1
  rintro m σ H' ⟨sm,⟨vs,ds,nss,dn,hl',htr,hsp,hf',hdn,rfl⟩,z,rfl⟩
  have hvl:=htr.length
  have hdl:=hsp.le
  have htot:dn.length + nss.flatten.length=ns.length:=by rw [← hdn,List.length_append]
  walk_at "wp"
  refine ⟨_,SqL.of hl',?_⟩
  rw [List.length_reverse]
  match vs,ds,nss,htr,hsp,hl' with
  | [],ds,nss,htr,hsp,hl'=>
   rw [if_neg (by simp)]
   refine h1 _ _ ?_
   walk_at "wp"
   have hd0:ds=[]:=by rw [← List.length_eq_zero_iff,← hvl];rfl
   have hn0:nss=[]:=by rw [← List.length_eq_zero_iff,← hsp.len,hd0];rfl
   rw [hn0] at hdn
   simp at hdn
   rw [hdn] at hf'
   exact q lf H' hlf hf' sm
  | v0 :: vs,[],nss,htr,_,_=>exact absurd htr.length (by simp)
  | v0 :: vs,d0 :: ds,[],_,hsp,_=>exact absurd hsp.len (by simp)
  | v0 :: vs,d0 :: ds,n0 :: nss,htr,hsp,hl'=>
   rw [if_pos (by simp)]
   obtain ⟨_,_,e,ht0,htr'⟩:=htr.uncons
   cases e
   obtain ⟨i,es,mss,rfl,rfl,e3,e4,hch⟩:=hsp.sh 0 d0 n0 rfl rfl
   refine ⟨fun σ2 H2=>∃ m',m' < (((i:Int) :: mss.flatten) :: nss).flatten.length∧NW H v lf ll ns m' σ2 H2,fun σ' H' h=>h,?_⟩
   unfold TrAt at ht0
   obtain ⟨a,xs,rfl,hta,hts⟩:=ht0
   obtain ⟨x0,ws,rfl,hx0,htw⟩:=hts.uncons
   unfold TrAt at hx0
   subst hx0
   obtain ⟨r1,r2⟩:=rev_last5 (V.ref a) vs
   refine ⟨.inl ⟨rfl,_,SqL.of hl'⟩,_,hl',_,r1,?_⟩
   rw [r2]
   have t2:TupS H' (upd H' ll (.lst vs.reverse)):=TupS.put hl'
   have f2:upd H' ll (.lst vs.reverse) lf=some (.lst (dn.map V.int)):=by rw [upd_ne hne];exact hf'
   have l2:upd H' ll (.lst vs.reverse) ll=some (.lst vs.reverse):=upd_same
   have s2:Same H (upd H' ll (.lst vs.reverse)):=same_upd2 sm hll0
   generalize upd H' ll (.lst vs.reverse)=H2 at t2 f2 l2 s2 ⊢
   have hwl:=htw.length
   have hfl:(((i:Int) :: mss.flatten) :: nss).flatten.length=1 + mss.flatten.length + nss.flatten.length:=by rw [List.flatten_cons,List.length_append,List.length_cons];omega
   rw [hfl] at htot
   refine ⟨.inl ⟨rfl,_,SqL.of f2⟩,_,rfl,_,SqT.of (t2 _ _ hta),_,atI_0 _ _,_,f2,?_,?_⟩
   ·rw [List.length_map];exact line_big (by omega)
   have t3:TupS H' (upd H2 lf (.lst (dn.map V.int ++ [V.int (i:Int)]))):=fun a xs e=>TupS.put f2 _ _ (t2 _ _ e)
   have f3:upd H2 lf (.lst (dn.map V.int ++ [V.int (i:Int)])) lf=some (.lst ((dn ++ [(i:Int)]).map V.int)):=by rw [upd_same];simp
   have l3:upd H2 lf (.lst (dn.map V.int ++ [V.int (i:Int)])) ll=some (.lst vs.reverse):=by rw [upd_ne hne.symm];exact l2
   have s3:Same H (upd H2 lf (.lst (dn.map V.int ++ [V.int (i:Int)]))):=same_upd2 s2 hlf
   generalize upd H2 lf (.lst (dn.map V.int ++ [V.int (i:Int)]))=H3 at t3 f3 l3 s3 ⊢
   refine ⟨.inl ⟨rfl,_,SqL.of l3⟩,_,rfl,_,SqT.of (t3 _ _ hta),cut1_ne _ _,fun pt hpt=>?_⟩
   rw [cut1]
   have s4:=same_upd (o:=.tup ws) hpt
   refine ⟨_,SqT.of upd_same,fun pq hpq=>?_⟩
   have s5:=s4.trans (same_upd (o:=.lst ws.reverse) hpq)
   have e5:upd (upd H3 pt (.tup ws)) pq (.lst ws.reverse) pq=some (.lst ws.reverse):=upd_same
   generalize upd (upd H3 pt (.tup ws)) pq (.lst ws.reverse)=H5 at s5 e5 ⊢
   have l5:=s5 _ _ l3
   have sH5:=s3.trans s5
   have hel:es.length≤mss.flatten.length:=ShP.le ⟨e3,fun j d' ns' h1 h2=>(hch j d' ns' h1 h2).mono (by decide)⟩
   have hdl':=hsp.tail.le
   have hvl':=htr'.length
   refine ⟨_,l5,_,e5,by rw [List.length_reverse,List.length_reverse];exact line_le (by omega),?_⟩
   have t5:TupS H' (upd H5 ll (.lst (vs.reverse ++ ws.reverse))):=fun a xs e=>TupS.put l5 _ _ (TupS.of s5 _ _ (t3 _ _ e))
   refine ⟨_,?_,same_upd2 sH5 hll0,⟨ws ++ vs,es ++ ds,mss ++ nss,dn ++ [(i:Int)],?_,TrAts.app (htw.up t5 _) (htr'.up t5 _),ShP.app ⟨e3,fun j d' ns' h1 h2=>(hch j d' ns' h1 h2).mono (by decide)⟩ hsp.tail,?_,?_,rfl⟩,_,rfl⟩
   ·rw [hfl,List.flatten_append,List.length_append];omega
   ·rw [upd_same,List.reverse_append]
   ·rw [upd_ne hne];exact s5 _ _ f3
   ·rw [← hdn,List.flatten_append,List.flatten_cons];simp
abbrev s_l_texts:Stmt:=top 58
def sp_l_texts:Sp:=fun vs H Q _=>∃ (a b:Addr) (p:Pic),vs=[.ref a,.ref b]∧H a=some (.lst (rowsV p))∧H b=some (.lst (rowsV p))∧p.length≤6∧∀ H',Same H H'→Q (.bl true) H'
theorem sc_l_texts:FnScope ["_law_found","_law_due"] ["_law_found","_law_due"] (defScope s_l_texts):=⟨rfl,rfl,rfl,by decide +kernel,rfl,by decide +kernel,by decide +kernel⟩
theorem ok_l_texts {f:Addr} {fd:FuncData} (F:Fun K "_law_texts" "_law_texts" s_l_texts f fd) (nb:NB mg):FnOk P w K mg base CX0 1 f fd ["_law_found","_law_due"] sp_l_texts:=by
 have sc:=sc_l_texts
 refine F.ok sc (fun vs H Q E h=>?_) (fun cdv A outer s H vs Q E hr h=>?_)
 ·obtain ⟨a,b,p,rfl,_⟩:=h;rfl
 ·obtain ⟨a,b,p,rfl,ha,hb,hp,q⟩:=h
  have hu:=hr.units
  refine ⟨_,(pss_cons (ps_if (PW.pt (pw_or (pt_not (pt_tb (pe_callB call_isinstance rfl nb.isinstance bt_isinstance (pa_cons (pv 0) (pa_cons (pe_bltn (v:=.ty "list") rfl nb.list bt_list rfl) pa_nil))) fun _=>rfl)) (pw_or1 (pt_cmpR (op_neD hu) (pv 0) (pv 1) (nomark _)))))
   (pss_one (ps_ret pe_bl))
   pss_nil)
   (pss_one (ps_ret (pe_callB (call_all rfl) rfl nb.all bt_all (pa_cons (pe_comp ["_law_row"] [] rfl (CompOk.of (by kernel_rfl)) (by kernel_rfl) (pi_list (pv 0))
    (fun _ _ _ _=>(pg_name (i:=0) (by show (["_law_row"]:List Str).Nodup;decide +kernel) rfl (Or.inl rfl))) (fun _ _ _ _=>pif_nil) (fun _ _ _ _=>(pe_callB (call_isinstanceK (K:=K) rfl) rfl nb.isinstance bt_isinstance (pa_cons (pv 0) (pa_cons (pe_bltn (v:=.ty "str") rfl nb.str bt_str rfl) pa_nil))))) pa_nil))))),?_⟩
  refine seq_cut fun N1 h1=>?_
  walk_at "wp"
  refine ⟨_,TyOf.lst ha,true,kit_same K _,?_⟩
  rw [if_neg (by decide)]
  refine rEqD_rows (SqL.of ha) (SqL.of hb) ⟨_,rfl,?_⟩
  rw [if_neg (by decide)]
  refine h1 _ _ ?_
  walk_at "wp"
  refine ⟨⟨_,SqL.of ha⟩,?_⟩
  refine comp_listF (as:=p) (emb:=fun r=>V.str (tx r)) (f:=fun _=>some (V.bl true)) (fun σ=>∃ z,σ=[z]) ⟨_,rfl⟩ (fun H' s=>SqL.of (s _ _ ha)) (by omega) ?_ ?_
  ·rintro j i hj σ H' N1 N0 ⟨z0,rfl⟩ s3 k1 _
   walk_at "wp"
   exact ⟨_,TyOf.str _,true,kit_same K _,k1 _ _ _ rfl s3 ⟨_,rfl⟩⟩
  ·intro H3 s3 l2 hl2
   rw [fm_all p _ (g:=fun _=>V.bl true) (fun _ _=>rfl)]
   refine ⟨p.map (fun _=>true),by rw [List.map_map];exact SqL.of upd_same,?_⟩
   rw [show (p.map (fun _=>true)).all id=true by simp]
   exact q _ (s3.trans (same_upd hl2))
theorem eq_ints {H:Hp} {neg:Bool} {l l':Addr} {ns:List Int} {Q:VK} (h:H l=some (.lst (ns.map V.int))) (h':H l'=some (.lst (ns.map V.int))) (q:Q (.bl (!neg)) H):rEqD K neg (.ref l) (.ref l') H Q:=by
 refine .inl ⟨ns.map Dt.int,by rw [deps_ints];omega,.inl ⟨?_,?_⟩,q⟩
 ·unfold RdD;exact ⟨l,_,rfl,SqL.of h,rd_ints⟩
 ·unfold RdD;exact ⟨l',_,rfl,SqL.of h',rd_ints⟩
abbrev s_l_good:Stmt:=top 60
def sp_l_good (R:RC) (CG:Addr):Sp:=fun vs H Q _=>∃ (g a:Addr) (rs:List (Nat × RV)) (x:SI),vs=[.ref g,.ref a]∧ItemAt H a x∧(∀ v,TrAt H x.d v→LaidAt R CG H g v rs x.d x.p x.c)∧∀ H',Same H H'→Q (.bl true) H'
theorem sc_l_good:FnScope ["_law_grammar_here","_law_one","_law_tree","_law_name","_law_picture","_law_cost","_law_found","_law_told","_law_numbers_here"] ["_law_grammar_here","_law_one"] (defScope s_l_good):=⟨rfl,rfl,rfl,by decide +kernel,rfl,by decide +kernel,by decide +kernel⟩
theorem ok_l_good {R:RC} {f CG:Addr} {fd:FuncData} (F:Fun K "_law_good" "_law_good" s_l_good f fd) (nb:NB mg) (c_laid:Cal P w K mg base CX0 24 "laid" ["grammar","tree"] (sp_laid R CG)) (c_tree_fault:Cal P w K mg base CX0 25 "tree_fault" ["grammar","tree"] (sp_tree_fault R CG)) (c_cost_of:Cal P w K mg base CX0 25 "cost_of" ["grammar","tree"] (sp_cost_of R CG)) (c_numbers_in:Cal P w K mg base CX0 19 "numbers_in" ["tree"] (sp_numbers_in 18)) (zFc:Cal P w K mg base CX0 1 "_law_texts" ["_law_found","_law_due"] sp_l_texts) (znb:Cal P w K mg base CX0 1 "_law_whole" ["_law_found"] sp_l_whole) (zTa:Cal P w K mg base CX0 1 "_law_numbers" ["_law_tree"] sp_l_numbers):FnOk P w K mg base CX0 26 f fd ["_law_grammar_here","_law_one"] (sp_l_good R CG):=by
 have sc:=sc_l_good
 refine F.ok sc (fun vs H Q E h=>?_) (fun cdv A outer s H vs Q E hr h=>?_)
 ·obtain ⟨g,a,rs,x,rfl,_⟩:=h;rfl
 ·obtain ⟨g,a,rs,x,rfl,ha,hL,q⟩:=h
  have hu:=hr.units
  refine ⟨_,(pss_cons (ps_asg (pe_slice sl_tup (pv 1) po_none (po_some pe_int)) (pg_tup (n:=4) rfl (pgs_cons (pg_name (i:=2) sc.nd rfl (Or.inl rfl)) (pgs_cons (pg_name (i:=3) sc.nd rfl (Or.inl rfl)) (pgs_cons (pg_name (i:=4) sc.nd rfl (Or.inl rfl)) (pgs_cons (pg_name (i:=5) sc.nd rfl (Or.inl rfl)) pgs_nil))))))
   (pss_cons (ps_set (i:=6) sc.nd rfl (Or.inl rfl) (pe_cal c_laid (hr.mono (by decide)) rfl pass0 (pa_cons (pv 0) (pa_cons (pv 2) pa_nil))))
   (pss_cons (ps_if (PW.pt (pw_or (pt_cmpR op_notN (pe_cal c_tree_fault (hr.mono (by decide)) rfl pass0 (pa_cons (pv 0) (pa_cons (pv 2) pa_nil))) pe_non (nomark _)) (pw_or1 (pt_not (pt_tb (pe_cal zFc (hr.mono (by decide)) rfl pass0 (pa_cons (pv 6) (pa_cons (pv 4) pa_nil))) fun _=>rfl)))))
   (pss_one (ps_ret pe_bl))
   pss_nil)
   (pss_cons (ps_asg pe_str (pg_sub (pv 6) pe_int set_list))
   (pss_cons (ps_expr (pe_bm PySem.F.plainAttrs_list PySem.F.slot_list_append PySem.F.type_list_append mt_append (pv 6) (pa_consS pa_nil)))
   (pss_cons (ps_set (i:=7) sc.nd rfl (Or.inl rfl) (pe_cal c_cost_of (hr.mono (by decide)) rfl pass0 (pa_cons (pv 0) (pa_cons (pv 2) pa_nil))))
   (pss_cons (ps_set (i:=8) sc.nd rfl (Or.inl rfl) (pe_cal c_numbers_in (hr.mono (by decide)) rfl pass0 (pa_cons (pv 2) pa_nil)))
   (pss_cons (ps_if (PW.pt (pw_or (pt_not (pt_tb (pe_cal znb (hr.mono (by decide)) rfl pass0 (pa_cons (pv 7) pa_nil)) fun _=>rfl)) (pw_or (pt_cmpR op_ne (pv 7) (pv 5) (nomark _)) (pw_or1 (pt_not (pt_tb (pe_callB call_isinstance rfl nb.isinstance bt_isinstance (pa_cons (pv 8) (pa_cons (pe_bltn (v:=.ty "list") rfl nb.list bt_list rfl) pa_nil))) fun _=>rfl))))))
   (pss_one (ps_ret pe_bl))
   pss_nil)
   (pss_cons (ps_if (PW.pt (pw_or (pt_cmpR (op_neD hu) (pv 8) (pe_cal zTa (hr.mono (by decide)) rfl pass0 (pa_cons (pv 2) pa_nil)) (nomark _)) (pw_or1 (pt_not (pt_tb (pe_callB (call_all rfl) rfl nb.all bt_all (pa_cons (pe_comp ["_law_k"] [] rfl (CompOk.of (by kernel_rfl)) (by kernel_rfl) (pi_list (pv 8))
    (fun _ _ _ _=>(pg_name (i:=0) (by show (["_law_k"]:List Str).Nodup;decide +kernel) rfl (Or.inl rfl))) (fun _ _ _ _=>pif_nil) (fun _ _ _ _=>(pe_cal znb (hr.mono (by decide)) rfl pass0 (pa_cons (pv 0) pa_nil)))) pa_nil)) fun _=>rfl)))))
   (pss_one (ps_ret pe_bl))
   pss_nil)
   (pss_cons (ps_asg pe_int (pg_sub (pv 8) pe_int set_list))
   (pss_one (ps_ret (pe_cmpR (op_eqD hu) (pe_cal c_numbers_in (hr.mono (by decide)) rfl pass0 (pa_cons (pv 2) pa_nil)) (pe_cal zTa (hr.mono (by decide)) rfl pass0 (pa_cons (pv 2) pa_nil)) (nomark _)))))))))))))),?_⟩
  obtain ⟨vt,lp,hA,htr,hlp,hpn⟩:=id ha
  refine seq_cut fun N1 h1=>?_
  walk_at "wp"
  refine ⟨_,SqT.of hA,fun h=>(by cases h.2),fun p0 hp0=>?_⟩
  have s1:=same_upd (o:=.tup [vt,V.str (tx x.nm),V.ref lp,V.int x.c]) hp0
  refine ⟨_,SqT.of upd_same,rfl,_,_,rfl,_,_,rfl,_,_,rfl,_,_,rfl,rfl,h1 _ _ ?_⟩
  clear h1
  have e1:upd H p0 (.tup (cutV [vt,V.str (tx x.nm),V.ref lp,V.int x.c,V.int x.m,V.int (x.k:Int)] none (some 4)))=upd H p0 (.tup [vt,V.str (tx x.nm),V.ref lp,V.int x.c]):=rfl
  rw [e1]
  generalize upd H p0 (.tup [vt,V.str (tx x.nm),V.ref lp,V.int x.c])=H1 at s1 ⊢
  have hLv:=hL vt htr
  refine seq_cut fun N1 h1=>?_
  walk_at "wp"
  refine ⟨g,vt,rs,x.d,x.p,x.c,rfl,hLv.up s1,fun lf H2 hlf0 hlf s2=>h1 _ _ ?_⟩
  clear h1
  have s02:=s1.trans s2
  have hlf00:=same_no s1 hlf0
  refine seq_cut fun N1 h1=>?_
  walk_at "wp"
  refine ⟨g,vt,rs,x.d,x.p,x.c,rfl,hLv.up s02,fun H3 s3=>?_⟩
  obtain ⟨dx,sg,st,as,nm,k,hG,hgd,h24,ht,hg,hk⟩:=id hLv
  obtain ⟨pr,pcc,pc6⟩:=hg.pic6 hgd
  have hpl6:x.p.length≤6:=by rw [pc6.rc.1];exact pc6.r6
  have s03:=s02.trans s3
  refine ite_cut (fun e=>absurd rfl e) fun _=>⟨lf,lp,x.p,rfl,s3 _ _ hlf,s03 _ _ hlp,hpl6,fun H4 s4=>⟨true,rfl,?_⟩⟩
  rw [if_neg (by decide)]
  refine h1 _ _ ?_
  clear h1
  have s04:=s03.trans s4
  have hlf4:=s4 _ _ (s3 _ _ hlf)
  have hpl0:0 < x.p.length:=by rw [pc6.rc.1];exact pc6.r0
  refine seq_cut fun N1 h1=>?_
  walk_at "wp"
  refine ⟨_,hlf4,0,?_,h1 _ _ ?_⟩
  ·unfold ixN
   rw [if_pos (by decide),rowsV_length]
   first | rw [if_pos (by omega)];rfl | simp;omega
  clear h1
  have hlf5:upd H4 lf (.lst ((rowsV x.p).set 0 (V.str (Str.ofString "")))) lf=some (.lst ((rowsV x.p).set 0 (V.str (Str.ofString "")))):=upd_same
  have s05:Same H (upd H4 lf (.lst ((rowsV x.p).set 0 (V.str (Str.ofString ""))))):=same_upd2 s04 hlf00
  generalize upd H4 lf (.lst ((rowsV x.p).set 0 (V.str (Str.ofString ""))))=H5 at s05 hlf5 ⊢
  refine seq_cut fun N1 h1=>?_
  walk_at "wp"
  refine ⟨.inl ⟨rfl,_,SqL.of hlf5⟩,_,hlf5,by rw [List.length_set,rowsV_length];exact line_big (by omega),h1 _ _ ?_⟩
  clear h1
  have s06:Same H (upd H5 lf (.lst ((rowsV x.p).set 0 (V.str (Str.ofString "")) ++ [V.str (Str.ofString "")]))):=same_upd2 s05 hlf00
  generalize upd H5 lf (.lst ((rowsV x.p).set 0 (V.str (Str.ofString "")) ++ [V.str (Str.ofString "")]))=H6 at s06 ⊢
  refine seq_cut fun N1 h1=>?_
  walk_at "wp"
  refine ⟨g,vt,rs,x.d,x.p,x.c,rfl,hLv.up s06,fun H7 s7=>h1 _ _ ?_⟩
  clear h1
  have s07:=s06.trans s7
  obtain ⟨ns,hsh,hsum,hns⟩:=hg.sh
  have hsh18:=hsh.mono hk
  have hlen:ns.length < 262145:=by
   have h:=hsh18.len
   have:(2:Nat) ^ 18=262144:=by decide
   omega
  refine seq_cut fun N1 h1=>?_
  walk_at "wp"
  refine ⟨vt,x.d,ns,rfl,htr.up (TupS.of s07) _,hsh18,fun ln H8 hln0 hln s8=>h1 _ _ ?_⟩
  clear h1
  have s08:=s07.trans s8
  have hln00:=same_no s07 hln0
  refine seq_cut fun N1 h1=>?_
  walk_at "wp"
  refine ⟨x.c,rfl,true,rfl,?_⟩
  rw [if_neg (by decide),if_neg (fun e=>e trivial)]
  refine ⟨_,TyOf.lst hln,true,kit_same K _,?_⟩
  rw [if_neg (by decide)]
  refine h1 _ _ ?_
  clear h1
  refine seq_cut fun N1 h1=>?_
  walk_at "wp"
  refine ⟨vt,x.d,ns,k,rfl,htr.up (TupS.of s08) _,hsh,hk,fun lm H9 hlm0 hlm s9=>?_⟩
  have s09:=s08.trans s9
  have hln9:=s9 _ _ hln
  refine eq_ints hln9 hlm ⟨false,rfl,?_⟩
  rw [if_neg (by decide)]
  refine ⟨⟨_,SqL.of hln9⟩,?_⟩
  refine comp_listF (as:=ns) (emb:=V.int) (f:=fun _=>some (V.bl true)) (fun σ=>∃ z,σ=[z]) ⟨_,rfl⟩ (fun H' s=>SqL.of (s _ _ hln9)) (by omega) ?_ ?_
  ·rintro j i hj σ H' N1 N0 ⟨z0,rfl⟩ s3 k1 _
   walk_at "wp"
   exact ⟨_,rfl,k1 _ _ _ rfl s3 ⟨_,rfl⟩⟩
  intro H10 s10 l2 hl2
  rw [fm_all ns _ (g:=fun _=>V.bl true) (fun _ _=>rfl)]
  refine ⟨ns.map (fun _=>true),by rw [List.map_map];exact SqL.of upd_same,?_⟩
  rw [show (ns.map (fun _=>true)).all id=true by simp,if_neg (by decide)]
  refine h1 _ _ ?_
  clear h1
  have s11:=(s09.trans s10).trans (same_upd (o:=.lst (ns.map (fun _=>V.bl true))) hl2)
  have hln11:=(s10.trans (same_upd (o:=.lst (ns.map (fun _=>V.bl true))) hl2)) _ _ hln9
  generalize upd H10 l2 (.lst (ns.map (fun _=>V.bl true)))=H11 at s11 hln11 ⊢
  have hn0:0 < ns.length:=by
   obtain ⟨kk,rfl⟩:∃ kk,k=kk + 1:=by cases k with | zero=>exact hsh.elim | succ kk=>exact ⟨kk,rfl⟩
   obtain ⟨i,ds,nss,_,e2,_⟩:=hsh
   rw [e2];simp
  refine seq_cut fun N1 h1=>?_
  walk_at "wp"
  refine ⟨_,hln11,0,?_,h1 _ _ ?_⟩
  ·unfold ixN
   rw [if_pos (by decide),List.length_map]
   first | rw [if_pos (by omega)];rfl | simp;omega
  clear h1
  have s12:Same H (upd H11 ln (.lst ((ns.map V.int).set 0 (V.int 99)))):=same_upd2 s11 hln00
  generalize upd H11 ln (.lst ((ns.map V.int).set 0 (V.int 99)))=H12 at s12 ⊢
  walk_at "wp"
  refine ⟨vt,x.d,ns,rfl,htr.up (TupS.of s12) _,hsh18,fun ln2 H13 _ hln2 s13=>?_⟩
  have s013:=s12.trans s13
  refine ⟨vt,x.d,ns,k,rfl,htr.up (TupS.of s013) _,hsh,hk,fun lm2 H14 _ hlm2 s14=>?_⟩
  exact eq_ints (s14 _ _ hln2) hlm2 (q _ (s013.trans s14))
abbrev s_tinit:Stmt:=meth 6 0
theorem sc_tinit:FnScope ["self","why"] ["self","why"] (defScope s_tinit):=⟨rfl,rfl,rfl,by decide +kernel,rfl,by decide +kernel,by decide +kernel⟩
theorem ok_tinit {f C:Addr} {fd:FuncData} (F:Fun K "__init__" "NoTree.__init__" s_tinit f fd) (xs:W.XSt K C "why"):FnOk P w K mg base CX0 1 f fd ["self","why"] (sp_init C "why"):=by
 have sc:=sc_tinit
 refine F.ok sc (fun vs H Q E h=>?_) (fun cdv A outer s H vs Q E hr h=>?_)
 ·obtain ⟨a,v,rfl,_⟩:=h;rfl
 ·obtain ⟨a,v,rfl,ha,q⟩:=h
  refine ⟨_,(pss_one (ps_xset (pv 0) (pv 1) rfl)),?_⟩
  walk_at "wp"
  exact ⟨C,ha,xs,fun d hd=>q d hd⟩
def vz:RV:=⟨[90],9,[90],[90],[122],0⟩
theorem vz_good:vz.good:=⟨by decide +kernel,by decide,by decide,by decide +kernel,by decide +kernel,by decide +kernel,by decide,by decide⟩
theorem vz_row:RowOf [[90]] [122] (0,vz):=⟨⟨by decide,vz_good,vz_good.small⟩,by decide,by decide,by decide,122,by decide,rfl⟩
theorem str_Z:V.str (Str.ofString "Z")=V.str (tx [90]):=by decide +kernel
theorem str_z:V.str (Str.ofString "z")=V.str (tx [122]):=by decide +kernel
theorem vz_make:gFault [122] [90] [(0,vz)]=none:=rows_make (p:=[[90]]) (by decide +kernel) (by decide) (fun r hr=>by rw [List.mem_singleton.mp hr];decide +kernel) (by decide) (by decide) (fun r hr=>by rw [List.mem_singleton.mp hr];exact vz_row)
abbrev s_law:Stmt:=top 61
def sp_law (K:W.Frag):Sp:=fun vs H Q _=>∃ (a:Addr) (ns:List Int),vs=[.ref a]∧SqL K H a (ns.map V.int)∧∀ H',Q (.bl true) H'
theorem sc_law:FnScope ["_law_script","_law_rules","_law_stock","_law_grammar_here","_law_one","_law_alone"] ["_law_script"] (defScope s_law):=⟨rfl,rfl,rfl,by decide +kernel,rfl,by decide +kernel,by decide +kernel⟩
theorem ok_law {R:RC} {f CG zaa zga:Addr} {fd:FuncData} (F:Fun K "law" "law" s_law f fd) (nb:NB mg) (rk:RKit K R) (gk:GNA K CG) (zDa:CalK P w K mg base (CX1 P w) 4 "CellRule" R.cc ["self","name","cost","sign"] (sp_cell_init K zga)) (zGa:CalK P w K mg base (CX1 P w) 4 "Grammar" CG ["self","signs","start","rules"] (sp_gram_init K R zaa))
  (zGc:Cal P w K mg base CX0 8 "_law_drawn" ["_law_script","_law_most","_law_steps"] (sp_l_drawn K R CG)) (zWb:Cal P w K mg base CX0 26 "_law_good" ["_law_grammar_here","_law_one"] (sp_l_good R CG)) (c_laid:Cal P w K mg base CX0 24 "laid" ["grammar","tree"] (sp_laid R CG)) (c_cost_of:Cal P w K mg base CX0 25 "cost_of" ["grammar","tree"] (sp_cost_of R CG)):FnOk P w K mg base CX0 27 f fd ["_law_script"] (sp_law K):=by
 have sc:=sc_law
 refine F.ok sc (fun vs H Q E h=>?_) (fun cdv A outer s H vs Q E hr h=>?_)
 ·obtain ⟨a,ns,rfl,_⟩:=h;rfl
 ·obtain ⟨a,ns,rfl,ha,q⟩:=h
  have hu:=hr.units
  refine ⟨_,(pss_cons (ps_asg (pe_cal zGc (hr.mono (by decide)) rfl pass0 (pa_cons (pv 0) (pa_consI (pa_consI pa_nil)))) (pg_tup (n:=3) rfl (pgs_cons (pg_name (i:=1) sc.nd rfl (Or.inl rfl)) (pgs_cons (pg_name (i:=2) sc.nd rfl (Or.inl rfl)) (pgs_cons (pg_name (i:=3) sc.nd rfl (Or.inl rfl)) pgs_nil)))))
   (pss_cons (ps_forw PassesOwn.never rfl (pi_list (pv 2)) (pg_name (i:=4) sc.nd rfl (Or.inl rfl))
   (pss_one (ps_if (pt_not (pt_tb (pe_cal zWb (hr.mono (by decide)) rfl pass0 (pa_cons (pv 3) (pa_cons (pv 4) pa_nil))) fun _=>rfl))
   (pss_one (ps_ret pe_bl))
   pss_nil)))
   (pss_cons (ps_set (i:=5) sc.nd rfl (Or.inl rfl) (pe_calK (CX:=CX1 P w) zGa (hr.mono (by decide)) rfl passes_E0 (pa_consS (pa_consS (pa_cons (pe_lst (pa_cons (pe_calK (CX:=CX1 P w) zDa (hr.mono (by decide)) rfl passes_E0 (pa_consS (pa_consI (pa_consS pa_nil)))) pa_nil)) pa_nil)))))
   (pss_cons (ps_if (PW.pt (pw_or (pt_cmpR (op_neD hu) (pe_cal c_laid (hr.mono (by decide)) rfl pass0 (pa_cons (pv 5) (pa_cons (pe_tup (pa_consI pa_nil)) pa_nil))) (pe_lst (pa_consS pa_nil)) (nomark _)) (pw_or1 (pt_cmpR op_ne (pe_cal c_cost_of (hr.mono (by decide)) rfl pass0 (pa_cons (pv 5) (pa_cons (pe_tup (pa_consI pa_nil)) pa_nil))) pe_int (nomark _)))))
   (pss_one (ps_ret pe_bl))
   pss_nil)
   (pss_one (ps_ret (pe_cal zWb (hr.mono (by decide)) rfl pass0 (pa_cons (pv 3) (pa_cons (pe_ix ix_list (pv 2) (pe_un un_neg pe_int) (fun _ _=>rfl)) pa_nil))))))))),?_⟩
  refine seq_cut fun N1 h1=>?_
  walk_at "wp"
  refine ⟨a,ns,36,16,rfl,ha,by decide,by decide,by decide,fun tp lr ls gr gd ga ts rs p sg st as xs H1 htp hR hro h24 hp hpn hsg hp0 hst hin hgood hx0 hxl hG s1=>⟨tp,rfl,_,SqT.of htp,rfl,_,_,rfl,_,_,rfl,_,_,rfl,rfl,h1 _ _ ?_⟩⟩
  clear h1
  have good:∀ H2,Same H1 H2→∀ (i:Nat) a x (Q:VK),as[i]?=some a→xs[i]?=some x→(∀ H',Same H2 H'→Q (.bl true) H')→sp_l_good R CG [.ref gr,.ref a] H2 Q E0:=fun H2 s2 i a x Q e1 e2 q=>
   ⟨gr,a,rs,x,rfl,(hin.2 i a x e1 e2).up s2,fun v hv=>⟨gd,sg,st,ga,x.nm,x.k,hG.up s2,fun r hr=>(hro r hr).good,h24,hv,(hgood x (List.mem_of_getElem? e2)).gr,(hgood x (List.mem_of_getElem? e2)).k1⟩,q⟩
  have hal:=hin.1
  refine seq_cut fun N1 h1=>?_
  walk_at "wp"
  refine ⟨⟨_,SqL.of hst⟩,?_⟩
  refine forw_list (xs:=as.map V.ref) (fun i σ H'=>Same H1 H'∧∃ z1 z2,σ=[some (V.ref a),some (V.ref lr),some (V.ref ls),some (V.ref gr),z1,z2]) ⟨Same.refl _,_,_,rfl⟩ ?_ ?_ ?_
  ·rintro i σ H' _ ⟨sm,_⟩
   exact SqL.of (sm _ _ hst)
  ·rintro i v σ H' hv ⟨sm,z1,z2,rfl⟩
   rw [List.getElem?_map] at hv
   obtain ⟨b,hb,rfl⟩:=Option.map_eq_some_iff.mp hv
   have hi:i < xs.length:=by rw [← hal];exact (List.getElem?_eq_some_iff.mp hb).1
   walk_at "wp"
   refine good H' sm i b _ _ hb (List.getElem?_eq_getElem hi) fun H2 s2=>⟨true,rfl,?_⟩
   rw [if_neg (by decide)]
   exact sm.trans s2
  rintro σ H2 ⟨s2,z1,z2,rfl⟩
  refine h1 _ _ ?_
  clear h1
  refine seq_cut fun N1 h1=>?_
  walk_at "wp"
  intro x dx hx hd hne
  rw [str_Z,str_z]
  refine ⟨x,R.cc,dx,vz.n,vz.sg,vz.c,rfl,upd_same,rk.i0.cl,rk.a0,by decide,by decide,fun ok pl H3 sx hpl hl' hxa=>⟨rfl,line_le (by decide),fun p1 hp1 y dy hy hdy hney=>?_⟩,fun nok=>absurd (vz_good.ok 0) nok⟩
  have s3:=sameX_new hx hd sx
  have hrule:RuleAt R H3 0 x vz:=⟨dx,pl,hxa,hl'⟩
  have s4:=same_upd (o:=.lst [V.ref x]) hp1
  have e4:upd H3 p1 (.lst [V.ref x]) p1=some (.lst (([x]:List Addr).map V.ref)):=upd_same
  generalize upd H3 p1 (.lst [V.ref x])=H4 at s4 e4 hy hdy ⊢
  have sm5:Same H4 (upd (upd H4 dy (.own y)) y (.ins CG dy [])):=(same_upd hdy).trans (same_upd (by rw [upd_ne (Ne.symm hney)];exact hy))
  have hA:RulesAt R H4 [x] [(0,vz)]:=⟨rfl,fun i a r e1 e2=>by
   match i,e1,e2 with
   | 0,e1,e2=>cases e1;cases e2;exact hrule.up s4
   | i + 1,e1,_=>simp at e1⟩
  refine ⟨y,CG,dy,p1,[122],[90],[x],[(0,vz)],rfl,upd_same,gk.cl.cl,gk.na,by decide,by decide,sm5 _ _ e4,hA.up sm5,fun r hr=>(by rw [List.mem_singleton.mp hr];decide),by decide,(fun _ H6 lk pn t sx gA _ _ _=>⟨rfl,h1 _ _ ?_⟩),fun y hy=>nomatch hy.symm.trans vz_make⟩
  clear h1
  have s6:Same H4 H6:=fun b u e=>sx b u (ne_of_none e hy) (sm5 b u e)
  have hGz:=gA.f
  have s26:=s3.trans (s4.trans s6)
  have s16:=s2.trans s26
  have gz:Gr [(0,vz)] (.tup [.int 0]) [90] [[122]] 9 1:=Gr.cell (n:=0) (v:=vz) rfl
  have lz:∀ H' t,Same H6 H'→H' t=some (.tup [V.int 0])→LaidAt R CG H' y (.ref t) [(0,vz)] (.tup [.int 0]) [[122]] 9:=fun H' t s ht=>⟨_,_,_,_,[90],1,hGz.up s,fun r hr=>(by rw [List.mem_singleton.mp hr];exact vz_row.good),by decide,TrAt.node (ds:=[]) ht TrAts.nil,gz,by decide⟩
  refine seq_cut fun N1 h1=>?_
  walk_at "wp"
  refine ⟨line_le (by decide),fun t1 ht1=>⟨y,.ref t1,_,_,_,_,rfl,lz _ t1 (same_upd ht1) upd_same,fun lf H7 _ hlf s7=>⟨line_le (by decide),fun p2 hp2=>?_⟩⟩⟩
  have s8:=((same_upd (o:=.tup [V.int 0]) ht1).trans s7).trans (same_upd (o:=.lst [V.str (Str.ofString "z")]) hp2)
  have e8:upd H7 p2 (.lst [V.str (Str.ofString "z")]) p2=some (.lst (rowsV [[122]])):=by rw [upd_same,str_z];rfl
  have f8:=same_upd (o:=.lst [V.str (Str.ofString "z")]) hp2 _ _ hlf
  generalize upd H7 p2 (.lst [V.str (Str.ofString "z")])=H8 at s8 e8 f8 ⊢
  refine rEqD_rows (SqL.of f8) (SqL.of e8) ⟨_,rfl,?_⟩
  rw [if_neg (by decide)]
  refine ⟨line_le (by decide),fun t2 ht2=>⟨y,.ref t2,_,_,_,_,rfl,lz _ t2 (s8.trans (same_upd ht2)) upd_same,fun H9 s9=>⟨rfl,?_⟩⟩⟩
  rw [if_neg (fun e=>e rfl)]
  refine h1 _ _ ?_
  clear h1
  have s19:=s16.trans (s8.trans ((same_upd (o:=.tup [V.int 0]) ht2).trans s9))
  walk_at "wp"
  have hpos:0 < xs.length:=List.length_pos_iff.mpr hx0
  have hla:xs.length - 1 < xs.length:=by omega
  have hlb:xs.length - 1 < as.length:=by omega
  have eA:=List.getElem?_eq_getElem hlb
  refine ⟨_,SqL.of (s19 _ _ hst),V.ref (as[xs.length - 1]),?_,good H9 s19 _ _ _ _ eA (List.getElem?_eq_getElem hla) fun H' _=>q H'⟩
  exact atI_mj (j:=0) (by rw [List.length_map];omega) (by rw [List.getElem?_map,List.length_map,hal,Nat.sub_zero,eA];rfl)
end
end Q15
set_option Elab.async false
set_option linter.all false
set_option maxRecDepth 100000
namespace Q15
open PySem L2 Pic QL
theorem all_mk {l:W.OpenLaw} {w:World} {K:W.Frag} {h:Heap} {mg:Str→Option Value} {fa f1 f2 f3 f4 f5 f6 f7 f8 f9 f10 f11 f12 f13 f14 f15 f16 f17 f18 f19 f20 f21 f22 f23 f24 f25 f26 f27 f28 f29 f30 f31 f32 f33 f34 f35:Addr} (X:K.In h) (G:h.Ns mainGlobals mg) (hfa:mg "law" = some (.ref fa))
  {od1 an1 od2 an2 od3 an3 od4 an4 od5 an5 od6 an6 od7 an7 od8 an8 od9 an9 od10 an10 od11 an11 od12 an12 od13 an13 od14 an14 od15 an15 od16 an16 od17 an17 od18 an18 od19 an19 od20 an20 od21 an21 od22 an22 od23 an23 od24 an24 od25 an25 od26 an26 od27 an27 od28 an28 od29 an29 od30 an30 od31 an31 od32 an32 od33 an33 od34 an34 od35 an35:Option Addr} {sl1 sl2 sl3 sl4 sl5 sl6 sl7 sl8 sl9 sl10 sl11 sl12 sl13 sl14 sl15 sl16 sl17 sl18 sl19 sl20 sl21 sl22 sl23 sl24 sl25 sl26 sl27 sl28 sl29 sl30 sl31 sl32 sl33 sl34 sl35:Array (Option Value)} {oc1 kV1 dc1 pm1 cd1 ct1 oc2 kV2 dc2 pm2 cd2 ct2 oc3 kV3 dc3 pm3 cd3 ct3 oc4 kV4 dc4 pm4 cd4 ct4 oc5 kV5 dc5 pm5 cd5 ct5 oc6 kV6 dc6 pm6 cd6 ct6 oc7 kV7 dc7 pm7 cd7 ct7 oc8 kV8 dc8 pm8 cd8 ct8 oc9 kV9 dc9 pm9 cd9 ct9 oc10 kV10 dc10 pm10 cd10 ct10 oc11 kV11 dc11 pm11 cd11 ct11 oc12 kV12 dc12 pm12 cd12 ct12 oc13 kV13 dc13 pm13 cd13 ct13 oc14 kV14 dc14 pm14 cd14 ct14 oc15 kV15 dc15 pm15 cd15 ct15 oc16 kV16 dc16 pm16 cd16 ct16 oc17 kV17 dc17 pm17 cd17 ct17 oc18 kV18 dc18 pm18 cd18 ct18 oc19 kV19 dc19 pm19 cd19 ct19 oc20 kV20 dc20 pm20 cd20 ct20 oc21 kV21 dc21 pm21 cd21 ct21 oc22 kV22 dc22 pm22 cd22 ct22 oc23 kV23 dc23 pm23 cd23 ct23 oc24 kV24 dc24 pm24 cd24 ct24 oc25 kV25 dc25 pm25 cd25 ct25 oc26 kV26 dc26 pm26 cd26 ct26 oc27 kV27 dc27 pm27 cd27 ct27 oc28 kV28 dc28 pm28 cd28 ct28 oc29 kV29 dc29 pm29 cd29 ct29 oc30 kV30 dc30 pm30 cd30 ct30 oc31 kV31 dc31 pm31 cd31 ct31 oc32 kV32 dc32 pm32 cd32 ct32 oc33 kV33 dc33 pm33 cd33 ct33 oc34 kV34 dc34 pm34 cd34 ct34 oc35 kV35 dc35 pm35 cd35 ct35:Value}
  (a1:W.nsIn K mainGlobals "only_of" = some (some (.ref f1))) (l1:K.lookup f1=some ⟨oc1,od1,.func (W.fnOf "only_of" "only_of" (defArgs s_only_of) (defBody s_only_of) (defScope s_only_of) .none kV1 dc1 pm1 an1 cd1 ct1),sl1⟩) (c1:W.codeIn K cd1 "only_of" = true) (k1:W.keepIn K (.ref f1)=true)
  (a2:W.nsIn K mainGlobals "is_name" = some (some (.ref f2))) (l2:K.lookup f2=some ⟨oc2,od2,.func (W.fnOf "is_name" "is_name" (defArgs s_is_name) (defBody s_is_name) (defScope s_is_name) .none kV2 dc2 pm2 an2 cd2 ct2),sl2⟩) (c2:W.codeIn K cd2 "is_name" = true) (k2:W.keepIn K (.ref f2)=true)
  (a3:W.nsIn K mainGlobals "are_signs" = some (some (.ref f3))) (l3:K.lookup f3=some ⟨oc3,od3,.func (W.fnOf "are_signs" "are_signs" (defArgs s_are_signs) (defBody s_are_signs) (defScope s_are_signs) .none kV3 dc3 pm3 an3 cd3 ct3),sl3⟩) (c3:W.codeIn K cd3 "are_signs" = true) (k3:W.keepIn K (.ref f3)=true)
  (a4:W.nsIn K mainGlobals "check_made_of" = some (some (.ref f4))) (l4:K.lookup f4=some ⟨oc4,od4,.func (W.fnOf "check_made_of" "check_made_of" (defArgs s_check_made_of) (defBody s_check_made_of) (defScope s_check_made_of) .none kV4 dc4 pm4 an4 cd4 ct4),sl4⟩) (c4:W.codeIn K cd4 "check_made_of" = true) (k4:W.keepIn K (.ref f4)=true)
  (a5:W.nsIn K mainGlobals "numbers_by_name" = some (some (.ref f5))) (l5:K.lookup f5=some ⟨oc5,od5,.func (W.fnOf "numbers_by_name" "numbers_by_name" (defArgs s_numbers_by_name) (defBody s_numbers_by_name) (defScope s_numbers_by_name) .none kV5 dc5 pm5 an5 cd5 ct5),sl5⟩) (c5:W.codeIn K cd5 "numbers_by_name" = true) (k5:W.keepIn K (.ref f5)=true)
  (a6:W.nsIn K mainGlobals "beside" = some (some (.ref f6))) (l6:K.lookup f6=some ⟨oc6,od6,.func (W.fnOf "beside" "beside" (defArgs s_beside) (defBody s_beside) (defScope s_beside) .none kV6 dc6 pm6 an6 cd6 ct6),sl6⟩) (c6:W.codeIn K cd6 "beside" = true) (k6:W.keepIn K (.ref f6)=true)
  (a7:W.nsIn K mainGlobals "above" = some (some (.ref f7))) (l7:K.lookup f7=some ⟨oc7,od7,.func (W.fnOf "above" "above" (defArgs s_above) (defBody s_above) (defScope s_above) .none kV7 dc7 pm7 an7 cd7 ct7),sl7⟩) (c7:W.codeIn K cd7 "above" = true) (k7:W.keepIn K (.ref f7)=true)
  (a8:W.nsIn K mainGlobals "mirror" = some (some (.ref f8))) (l8:K.lookup f8=some ⟨oc8,od8,.func (W.fnOf "mirror" "mirror" (defArgs s_mirror) (defBody s_mirror) (defScope s_mirror) .none kV8 dc8 pm8 an8 cd8 ct8),sl8⟩) (c8:W.codeIn K cd8 "mirror" = true) (k8:W.keepIn K (.ref f8)=true)
  (a9:W.nsIn K mainGlobals "column_from_below" = some (some (.ref f9))) (l9:K.lookup f9=some ⟨oc9,od9,.func (W.fnOf "column_from_below" "column_from_below" (defArgs s_column_from_below) (defBody s_column_from_below) (defScope s_column_from_below) .none kV9 dc9 pm9 an9 cd9 ct9),sl9⟩) (c9:W.codeIn K cd9 "column_from_below" = true) (k9:W.keepIn K (.ref f9)=true)
  (a10:W.nsIn K mainGlobals "quarter" = some (some (.ref f10))) (l10:K.lookup f10=some ⟨oc10,od10,.func (W.fnOf "quarter" "quarter" (defArgs s_quarter) (defBody s_quarter) (defScope s_quarter) .none kV10 dc10 pm10 an10 cd10 ct10),sl10⟩) (c10:W.codeIn K cd10 "quarter" = true) (k10:W.keepIn K (.ref f10)=true)
  (a11:W.nsIn K mainGlobals "turned" = some (some (.ref f11))) (l11:K.lookup f11=some ⟨oc11,od11,.func (W.fnOf "turned" "turned" (defArgs s_turned) (defBody s_turned) (defScope s_turned) .none kV11 dc11 pm11 an11 cd11 ct11),sl11⟩) (c11:W.codeIn K cd11 "turned" = true) (k11:W.keepIn K (.ref f11)=true)
  (a12:W.nsIn K mainGlobals "check_form" = some (some (.ref f12))) (l12:K.lookup f12=some ⟨oc12,od12,.func (W.fnOf "check_form" "check_form" (defArgs s_check_form) (defBody s_check_form) (defScope s_check_form) .none kV12 dc12 pm12 an12 cd12 ct12),sl12⟩) (c12:W.codeIn K cd12 "check_form" = true) (k12:W.keepIn K (.ref f12)=true)
  (a13:W.nsIn K mainGlobals "lay" = some (some (.ref f13))) (l13:K.lookup f13=some ⟨oc13,od13,.func (W.fnOf "lay" "lay" (defArgs s_lay) (defBody s_lay) (defScope s_lay) .none kV13 dc13 pm13 an13 cd13 ct13),sl13⟩) (c13:W.codeIn K cd13 "lay" = true) (k13:W.keepIn K (.ref f13)=true)
  (a14:W.nsIn K mainGlobals "laid" = some (some (.ref f14))) (l14:K.lookup f14=some ⟨oc14,od14,.func (W.fnOf "laid" "laid" (defArgs s_laid) (defBody s_laid) (defScope s_laid) .none kV14 dc14 pm14 an14 cd14 ct14),sl14⟩) (c14:W.codeIn K cd14 "laid" = true) (k14:W.keepIn K (.ref f14)=true)
  (a15:W.nsIn K mainGlobals "numbers_in" = some (some (.ref f15))) (l15:K.lookup f15=some ⟨oc15,od15,.func (W.fnOf "numbers_in" "numbers_in" (defArgs s_numbers_in) (defBody s_numbers_in) (defScope s_numbers_in) .none kV15 dc15 pm15 an15 cd15 ct15),sl15⟩) (c15:W.codeIn K cd15 "numbers_in" = true) (k15:W.keepIn K (.ref f15)=true)
  (a16:W.nsIn K mainGlobals "tree_fault" = some (some (.ref f16))) (l16:K.lookup f16=some ⟨oc16,od16,.func (W.fnOf "tree_fault" "tree_fault" (defArgs s_tree_fault) (defBody s_tree_fault) (defScope s_tree_fault) .none kV16 dc16 pm16 an16 cd16 ct16),sl16⟩) (c16:W.codeIn K cd16 "tree_fault" = true) (k16:W.keepIn K (.ref f16)=true)
  (a17:W.nsIn K mainGlobals "cost_of" = some (some (.ref f17))) (l17:K.lookup f17=some ⟨oc17,od17,.func (W.fnOf "cost_of" "cost_of" (defArgs s_cost_of) (defBody s_cost_of) (defScope s_cost_of) .none kV17 dc17 pm17 an17 cd17 ct17),sl17⟩) (c17:W.codeIn K cd17 "cost_of" = true) (k17:W.keepIn K (.ref f17)=true)
  (a18:W.nsIn K mainGlobals "_law_cell" = some (some (.ref f18))) (l18:K.lookup f18=some ⟨oc18,od18,.func (W.fnOf "_law_cell" "_law_cell" (defArgs s_l_cell) (defBody s_l_cell) (defScope s_l_cell) .none kV18 dc18 pm18 an18 cd18 ct18),sl18⟩) (c18:W.codeIn K cd18 "_law_cell" = true) (k18:W.keepIn K (.ref f18)=true)
  (a19:W.nsIn K mainGlobals "_law_signs" = some (some (.ref f19))) (l19:K.lookup f19=some ⟨oc19,od19,.func (W.fnOf "_law_signs" "_law_signs" (defArgs s_l_signs) (defBody s_l_signs) (defScope s_l_signs) .none kV19 dc19 pm19 an19 cd19 ct19),sl19⟩) (c19:W.codeIn K cd19 "_law_signs" = true) (k19:W.keepIn K (.ref f19)=true)
  (a20:W.nsIn K mainGlobals "_law_names" = some (some (.ref f20))) (l20:K.lookup f20=some ⟨oc20,od20,.func (W.fnOf "_law_names" "_law_names" (defArgs s_l_names) (defBody s_l_names) (defScope s_l_names) .none kV20 dc20 pm20 an20 cd20 ct20),sl20⟩) (c20:W.codeIn K cd20 "_law_names" = true) (k20:W.keepIn K (.ref f20)=true)
  (a21:W.nsIn K mainGlobals "_law_quarter" = some (some (.ref f21))) (l21:K.lookup f21=some ⟨oc21,od21,.func (W.fnOf "_law_quarter" "_law_quarter" (defArgs s_l_quarter) (defBody s_l_quarter) (defScope s_l_quarter) .none kV21 dc21 pm21 an21 cd21 ct21),sl21⟩) (c21:W.codeIn K cd21 "_law_quarter" = true) (k21:W.keepIn K (.ref f21)=true)
  (a22:W.nsIn K mainGlobals "_law_turned" = some (some (.ref f22))) (l22:K.lookup f22=some ⟨oc22,od22,.func (W.fnOf "_law_turned" "_law_turned" (defArgs s_l_turned) (defBody s_l_turned) (defScope s_l_turned) .none kV22 dc22 pm22 an22 cd22 ct22),sl22⟩) (c22:W.codeIn K cd22 "_law_turned" = true) (k22:W.keepIn K (.ref f22)=true)
  (a23:W.nsIn K mainGlobals "_law_put" = some (some (.ref f23))) (l23:K.lookup f23=some ⟨oc23,od23,.func (W.fnOf "_law_put" "_law_put" (defArgs s_l_put) (defBody s_l_put) (defScope s_l_put) .none kV23 dc23 pm23 an23 cd23 ct23),sl23⟩) (c23:W.codeIn K cd23 "_law_put" = true) (k23:W.keepIn K (.ref f23)=true)
  (a24:W.nsIn K mainGlobals "_law_rule_made" = some (some (.ref f24))) (l24:K.lookup f24=some ⟨oc24,od24,.func (W.fnOf "_law_rule_made" "_law_rule_made" (defArgs s_l_rule) (defBody s_l_rule) (defScope s_l_rule) .none kV24 dc24 pm24 an24 cd24 ct24),sl24⟩) (c24:W.codeIn K cd24 "_law_rule_made" = true) (k24:W.keepIn K (.ref f24)=true)
  (a25:W.nsIn K mainGlobals "_law_drawn_rule" = some (some (.ref f25))) (l25:K.lookup f25=some ⟨oc25,od25,.func (W.fnOf "_law_drawn_rule" "_law_drawn_rule" (defArgs s_l_drawn_rule) (defBody s_l_drawn_rule) (defScope s_l_drawn_rule) .none kV25 dc25 pm25 an25 cd25 ct25),sl25⟩) (c25:W.codeIn K cd25 "_law_drawn_rule" = true) (k25:W.keepIn K (.ref f25)=true)
  (a26:W.nsIn K mainGlobals "_law_next" = some (some (.ref f26))) (l26:K.lookup f26=some ⟨oc26,od26,.func (W.fnOf "_law_next" "_law_next" (defArgs s_l_next) (defBody s_l_next) (defScope s_l_next) .none kV26 dc26 pm26 an26 cd26 ct26),sl26⟩) (c26:W.codeIn K cd26 "_law_next" = true) (k26:W.keepIn K (.ref f26)=true)
  (a27:W.nsIn K mainGlobals "_law_number" = some (some (.ref f27))) (l27:K.lookup f27=some ⟨oc27,od27,.func (W.fnOf "_law_number" "_law_number" (defArgs s_l_number) (defBody s_l_number) (defScope s_l_number) .none kV27 dc27 pm27 an27 cd27 ct27),sl27⟩) (c27:W.codeIn K cd27 "_law_number" = true) (k27:W.keepIn K (.ref f27)=true)
  (a28:W.nsIn K mainGlobals "_law_grown" = some (some (.ref f28))) (l28:K.lookup f28=some ⟨oc28,od28,.func (W.fnOf "_law_grown" "_law_grown" (defArgs s_l_grown) (defBody s_l_grown) (defScope s_l_grown) .none kV28 dc28 pm28 an28 cd28 ct28),sl28⟩) (c28:W.codeIn K cd28 "_law_grown" = true) (k28:W.keepIn K (.ref f28)=true)
  (a29:W.nsIn K mainGlobals "_law_grammar" = some (some (.ref f29))) (l29:K.lookup f29=some ⟨oc29,od29,.func (W.fnOf "_law_grammar" "_law_grammar" (defArgs s_l_grammar) (defBody s_l_grammar) (defScope s_l_grammar) .none kV29 dc29 pm29 an29 cd29 ct29),sl29⟩) (c29:W.codeIn K cd29 "_law_grammar" = true) (k29:W.keepIn K (.ref f29)=true)
  (a30:W.nsIn K mainGlobals "_law_drawn" = some (some (.ref f30))) (l30:K.lookup f30=some ⟨oc30,od30,.func (W.fnOf "_law_drawn" "_law_drawn" (defArgs s_l_drawn) (defBody s_l_drawn) (defScope s_l_drawn) .none kV30 dc30 pm30 an30 cd30 ct30),sl30⟩) (c30:W.codeIn K cd30 "_law_drawn" = true) (k30:W.keepIn K (.ref f30)=true)
  (a31:W.nsIn K mainGlobals "_law_whole" = some (some (.ref f31))) (l31:K.lookup f31=some ⟨oc31,od31,.func (W.fnOf "_law_whole" "_law_whole" (defArgs s_l_whole) (defBody s_l_whole) (defScope s_l_whole) .none kV31 dc31 pm31 an31 cd31 ct31),sl31⟩) (c31:W.codeIn K cd31 "_law_whole" = true) (k31:W.keepIn K (.ref f31)=true)
  (a32:W.nsIn K mainGlobals "_law_texts" = some (some (.ref f32))) (l32:K.lookup f32=some ⟨oc32,od32,.func (W.fnOf "_law_texts" "_law_texts" (defArgs s_l_texts) (defBody s_l_texts) (defScope s_l_texts) .none kV32 dc32 pm32 an32 cd32 ct32),sl32⟩) (c32:W.codeIn K cd32 "_law_texts" = true) (k32:W.keepIn K (.ref f32)=true)
  (a33:W.nsIn K mainGlobals "_law_numbers" = some (some (.ref f33))) (l33:K.lookup f33=some ⟨oc33,od33,.func (W.fnOf "_law_numbers" "_law_numbers" (defArgs s_l_numbers) (defBody s_l_numbers) (defScope s_l_numbers) .none kV33 dc33 pm33 an33 cd33 ct33),sl33⟩) (c33:W.codeIn K cd33 "_law_numbers" = true) (k33:W.keepIn K (.ref f33)=true)
  (a34:W.nsIn K mainGlobals "_law_good" = some (some (.ref f34))) (l34:K.lookup f34=some ⟨oc34,od34,.func (W.fnOf "_law_good" "_law_good" (defArgs s_l_good) (defBody s_l_good) (defScope s_l_good) .none kV34 dc34 pm34 an34 cd34 ct34),sl34⟩) (c34:W.codeIn K cd34 "_law_good" = true) (k34:W.keepIn K (.ref f34)=true)
  (a35:W.nsIn K mainGlobals "law" = some (some (.ref f35))) (l35:K.lookup f35=some ⟨oc35,od35,.func (W.fnOf "law" "law" (defArgs s_law) (defBody s_law) (defScope s_law) .none kV35 dc35 pm35 an35 cd35 ct35),sl35⟩) (c35:W.codeIn K cd35 "law" = true) (k35:W.keepIn K (.ref f35)=true)
  {zga zha zaa zHa C_NoTree fINoTree C_Rule zwa zea zna zba zka zca zma zda zoa zja zxa zra zva zya zfa zqa zAa zBa:Addr} {tkCAPITALS tkSMALLS tkLONGEST_NAME tkMOST_SIGNS tkMOST_RULES tkMOST_NAMES tkMOST:Tok} {ddNoRule ddNoFit ddNoGrammar odINoGrammar anINoGrammar ddNoTree odINoTree anINoTree zDd zEd zhc zic zBb zCb zXb zYb zjc zkc zNe zOe zFd zGd zWc zXc zpd zqd zHd zId zHc zIc zqe zre zse zte:Option Addr} {zOf zpf zta cdNoTree:ClassData} {zPf zQf zef slINoGrammar slNoTree slINoTree zJd zlc zDb zZb zmc zPe zKd zYc zrd zLd zJc zue zve:Array (Option Value)} {ocINoGrammar kVINoGrammar dcINoGrammar pmINoGrammar cdINoGrammar ctINoGrammar ocINoTree kVINoTree dcINoTree pmINoTree cdINoTree ctINoTree zMd zNd zOd zPd zob zQd znc zoc zpc zqc zOa zrc zEb zFb zGb zHb zIa zIb zac zbc zcc zdc zKa zec zsc ztc zuc zvc zPa zwc zQe zRe zSe zTe zKc zUe zRd zSd zTd zUd zpb zVd zZc zad zbd zcd zbb zdd zsd ztd zud zvd zib zwd zWd zXd zYd zZd zqb zae zLc zMc zNc zOc zWa zPc zwe zxe zye zze zJb zAe zBe zCe zDe zEe zKb zFe:Value}  (xNoRule:W.nsIn K mainGlobals "NoRule" = some (some (.ref zga))) (xlNoRule:K.lookup zga=some ⟨.type "type",ddNoRule,.cls zOf,zPf⟩) (xeNoRule:W.excIn K zga [.type "ValueError",.type "Exception",.type "BaseException",.type "object"] "ValueError.__new__" = true) (xgaNoRule:W.findIn K (.ref zga) "__getattribute__" = some (some (.builtin "BaseException.__getattribute__"))) (xghNoRule:W.findIn K (.ref zga) "__getattr__" = some none) (xmbNoRule:W.mroIn K zga (.type "BaseException")=some true) (xmoNoRule:W.mroIn K zga (.type "object")=some true) (xhaNoRule:W.findIn K (.ref zga) "__class__" = some (some (.builtin "object.__class__"))) (xhn:W.specialIn K (.builtin "object.__class__") "__get__" = some (some (.builtin "getset_descriptor.__get__"))) (xtk:W.takesIn K (.builtin "object.__class__")=some true) (xNoFit:W.nsIn K mainGlobals "NoFit" = some (some (.ref zha))) (xlNoFit:K.lookup zha=some ⟨.type "type",ddNoFit,.cls zpf,zQf⟩) (xeNoFit:W.excIn K zha [.type "ValueError",.type "Exception",.type "BaseException",.type "object"] "ValueError.__new__" = true) (xgaNoFit:W.findIn K (.ref zha) "__getattribute__" = some (some (.builtin "BaseException.__getattribute__"))) (xghNoFit:W.findIn K (.ref zha) "__getattr__" = some none) (xmbNoFit:W.mroIn K zha (.type "BaseException")=some true) (xmoNoFit:W.mroIn K zha (.type "object")=some true) (xhaNoFit:W.findIn K (.ref zha) "__class__" = some (some (.builtin "object.__class__"))) (zLe:zpf.mro.contains (.ref zha)=true) (xNoGrammar:W.nsIn K mainGlobals "NoGrammar" = some (some (.ref zaa))) (xlNoGrammar:K.lookup zaa=some ⟨.type "type",ddNoGrammar,.cls zta,zef⟩) (xeoNoGrammar:W.excOut K zaa [.type "ValueError",.type "Exception",.type "BaseException",.type "object"] "ValueError.__new__" = true) (xgaNoGrammar:W.findIn K (.ref zaa) "__getattribute__" = some (some (.builtin "BaseException.__getattribute__"))) (xghNoGrammar:W.findIn K (.ref zaa) "__getattr__" = some none) (xmbNoGrammar:W.mroIn K zaa (.type "BaseException")=some true) (xmoNoGrammar:W.mroIn K zaa (.type "object")=some true) (xhaNoGrammar:W.findIn K (.ref zaa) "__class__" = some (some (.builtin "object.__class__"))) (xfiNoGrammar:W.findIn K (.ref zaa) "__init__" = some (some (.ref zHa))) (xftNoGrammar:W.typeIn K (.ref zHa)=some (.type "function")) (xflNoGrammar:K.lookup zHa=some ⟨ocINoGrammar,odINoGrammar,.func (W.fnOf "__init__" "NoGrammar.__init__" (defArgs s_ginit) (defBody s_ginit) (defScope s_ginit) .none kVINoGrammar dcINoGrammar pmINoGrammar anINoGrammar cdINoGrammar ctINoGrammar),slINoGrammar⟩) (xfcNoGrammar:W.codeIn K cdINoGrammar "NoGrammar.__init__" = true) (xfkNoGrammar:W.keepIn K (.ref zHa)=true) (xsaNoGrammar:W.findIn K (.ref zaa) "__setattr__" = some (some (.builtin "object.__setattr__"))) (xstNoGrammar:W.strip zta.mro=[.type "ValueError",.type "Exception",.type "BaseException",.type "object"]) (xhdNoGrammar:zta.hasDict=true) (xobNoGrammar:zta.mro.contains (.type "object")=true) (xneNoGrammar:zta.mro.isEmpty=false) (xw_NoGrammar:W.findIn K (.ref zaa) "why" = some none) (zLb:zta.mro.contains (.ref zaa)=true) (xNoTree:W.nsIn K mainGlobals "NoTree" = some (some (.ref C_NoTree))) (xlNoTree:K.lookup C_NoTree=some ⟨.type "type",ddNoTree,.cls cdNoTree,slNoTree⟩) (xeoNoTree:W.excOut K C_NoTree [.type "ValueError",.type "Exception",.type "BaseException",.type "object"] "ValueError.__new__" = true) (xgaNoTree:W.findIn K (.ref C_NoTree) "__getattribute__" = some (some (.builtin "BaseException.__getattribute__"))) (xghNoTree:W.findIn K (.ref C_NoTree) "__getattr__" = some none) (xmbNoTree:W.mroIn K C_NoTree (.type "BaseException")=some true) (xmoNoTree:W.mroIn K C_NoTree (.type "object")=some true) (xhaNoTree:W.findIn K (.ref C_NoTree) "__class__" = some (some (.builtin "object.__class__"))) (xfiNoTree:W.findIn K (.ref C_NoTree) "__init__" = some (some (.ref fINoTree))) (xftNoTree:W.typeIn K (.ref fINoTree)=some (.type "function")) (xflNoTree:K.lookup fINoTree=some ⟨ocINoTree,odINoTree,.func (W.fnOf "__init__" "NoTree.__init__" (defArgs s_tinit) (defBody s_tinit) (defScope s_tinit) .none kVINoTree dcINoTree pmINoTree anINoTree cdINoTree ctINoTree),slINoTree⟩) (xfcNoTree:W.codeIn K cdINoTree "NoTree.__init__" = true) (xfkNoTree:W.keepIn K (.ref fINoTree)=true) (xsaNoTree:W.findIn K (.ref C_NoTree) "__setattr__" = some (some (.builtin "object.__setattr__"))) (xstNoTree:W.strip cdNoTree.mro=[.type "ValueError",.type "Exception",.type "BaseException",.type "object"]) (xhdNoTree:cdNoTree.hasDict=true) (xobNoTree:cdNoTree.mro.contains (.type "object")=true) (xneNoTree:cdNoTree.mro.isEmpty=false) (xw_NoTree:W.findIn K (.ref C_NoTree) "why" = some none) (xmNoTree_NoTree:cdNoTree.mro.contains (.ref C_NoTree)=true) (xCAPITALS:W.nsIn K mainGlobals "CAPITALS" = some (some (.str "ABCDEFGHIJKLMNOPQRSTUVWXYZ" tkCAPITALS))) (xSMALLS:W.nsIn K mainGlobals "SMALLS" = some (some (.str "abcdefghijklmnopqrstuvwxyz" tkSMALLS))) (xLONGEST_NAME:W.nsIn K mainGlobals "LONGEST_NAME" = some (some (.int 4 tkLONGEST_NAME))) (xRule:W.nsIn K mainGlobals "Rule" = some (some (.ref C_Rule))) (spRule:W.specialIn K (.ref C_Rule) "__getattribute__" = some (some (.builtin "type.__getattribute__"))) (rdRule:W.readsIn K C_Rule (.type "type")=true) (fcRule___init__:W.findCls K (.ref C_Rule) (.type "type") "__init__" = some (.val (.ref zwa))) (mlRule___init__:K.lookup zwa=some ⟨zMd,zDd,.func (W.fnOf "__init__" "Rule.__init__" (defArgs s_rule_init) (defBody s_rule_init) (defScope s_rule_init) .none zNd zOd zPd zEd zob zQd),zJd⟩) (mcRule___init__:W.codeIn K zob "Rule.__init__" = true) (zrb:W.keepIn K (.ref zwa)=true) (mfRule___init__:W.isFn K (.ref zwa)=true) (xCellRule:W.nsIn K mainGlobals "CellRule" = some (some (.ref zea))) (zqf:W.plainGet K zea Str.empty=true) (zrf:W.hasDictIn K zea=true) (zsf:W.plainOver K zea=true) (ztf:W.findIn K (.ref zea) "__setattr__" = some (some (.builtin "object.__setattr__"))) (zuf:W.findIn K (.ref zea) "__class__" = some (some (.builtin "object.__class__"))) (zvf:W.mroIn K zea (.type "object")=some true) (zbe:W.findIn K (.ref zea) "name" = some none) (zce:W.findIn K (.ref zea) "cost" = some none) (zMb:W.findIn K (.ref zea) "part_names" = some none) (zde:W.findIn K (.ref zea) "sign" = some none) (miCellRule:W.makesIn K zea=true) (fiCellRule:W.findIn K (.ref zea) "__init__" = some (some (.ref zna))) (mlCellRule___init__:K.lookup zna=some ⟨znc,zhc,.func (W.fnOf "__init__" "CellRule.__init__" (defArgs s_cell_init) (defBody s_cell_init) (defScope s_cell_init) .none zoc zpc zqc zic zOa zrc),zlc⟩) (mcCellRule___init__:W.codeIn K zOa "CellRule.__init__" = true) (zxc:W.keepIn K (.ref zna)=true) (mfCellRule___init__:W.isFn K (.ref zna)=true) (kcCellRule:W.keepIn K (.ref zea)=true) (zFf:W.kitOne K (.ref zea) (.ref C_Rule)=some true) (zJe:W.kitOne K (.ref zea) (.ref zea)=some true) (xBesideRule:W.nsIn K mainGlobals "BesideRule" = some (some (.ref zba))) (zVe:W.plainGet K zba Str.empty=true) (zWe:W.hasDictIn K zba=true) (zXe:W.plainOver K zba=true) (zYe:W.findIn K (.ref zba) "__setattr__" = some (some (.builtin "object.__setattr__"))) (zZe:W.findIn K (.ref zba) "__class__" = some (some (.builtin "object.__class__"))) (zaf:W.mroIn K zba (.type "object")=some true) (zed:W.findIn K (.ref zba) "name" = some none) (zfd:W.findIn K (.ref zba) "cost" = some none) (zmb:W.findIn K (.ref zba) "part_names" = some none) (zxd:W.findIn K (.ref zba) "one" = some none) (zQc:W.findIn K (.ref zba) "other" = some none) (miBesideRule:W.makesIn K zba=true) (fiBesideRule:W.findIn K (.ref zba) "__init__" = some (some (.ref zka))) (mlBesideRule___init__:K.lookup zka=some ⟨zEb,zBb,.func (W.fnOf "__init__" "BesideRule.__init__" (defArgs s_beside_init) (defBody s_beside_init) (defScope s_beside_init) .none zFb zGb zHb zCb zIa zIb),zDb⟩) (mcBesideRule___init__:W.codeIn K zIa "BesideRule.__init__" = true) (zNb:W.keepIn K (.ref zka)=true) (mfBesideRule___init__:W.isFn K (.ref zka)=true) (kcBesideRule:W.keepIn K (.ref zba)=true) (zff:W.kitOne K (.ref zba) (.ref C_Rule)=some true) (zmd:W.kitOne K (.ref zba) (.ref zba)=some true) (xAboveRule:W.nsIn K mainGlobals "AboveRule" = some (some (.ref zca))) (zgf:W.plainGet K zca Str.empty=true) (zhf:W.hasDictIn K zca=true) (zif:W.plainOver K zca=true) (zjf:W.findIn K (.ref zca) "__setattr__" = some (some (.builtin "object.__setattr__"))) (zkf:W.findIn K (.ref zca) "__class__" = some (some (.builtin "object.__class__"))) (zlf:W.mroIn K zca (.type "object")=some true) (zyd:W.findIn K (.ref zca) "name" = some none) (zzd:W.findIn K (.ref zca) "cost" = some none) (zAb:W.findIn K (.ref zca) "part_names" = some none) (zee:W.findIn K (.ref zca) "one" = some none) (zgd:W.findIn K (.ref zca) "other" = some none) (miAboveRule:W.makesIn K zca=true) (fiAboveRule:W.findIn K (.ref zca) "__init__" = some (some (.ref zma))) (mlAboveRule___init__:K.lookup zma=some ⟨zac,zXb,.func (W.fnOf "__init__" "AboveRule.__init__" (defArgs s_above_init) (defBody s_above_init) (defScope s_above_init) .none zbc zcc zdc zYb zKa zec),zZb⟩) (mcAboveRule___init__:W.codeIn K zKa "AboveRule.__init__" = true) (zfc:W.keepIn K (.ref zma)=true) (mfAboveRule___init__:W.isFn K (.ref zma)=true) (kcAboveRule:W.keepIn K (.ref zca)=true) (zwf:W.kitOne K (.ref zca) (.ref C_Rule)=some true) (zfe:W.kitOne K (.ref zca) (.ref zca)=some true) (xTurnRule:W.nsIn K mainGlobals "TurnRule" = some (some (.ref zda))) (zxf:W.plainGet K zda Str.empty=true) (zyf:W.hasDictIn K zda=true) (zzf:W.plainOver K zda=true) (zAf:W.findIn K (.ref zda) "__setattr__" = some (some (.builtin "object.__setattr__"))) (zBf:W.findIn K (.ref zda) "__class__" = some (some (.builtin "object.__class__"))) (zCf:W.mroIn K zda (.type "object")=some true) (zge:W.findIn K (.ref zda) "name" = some none) (zhe:W.findIn K (.ref zda) "cost" = some none) (zOb:W.findIn K (.ref zda) "part_names" = some none) (zie:W.findIn K (.ref zda) "part" = some none) (zRc:W.findIn K (.ref zda) "turning" = some none) (miTurnRule:W.makesIn K zda=true) (fiTurnRule:W.findIn K (.ref zda) "__init__" = some (some (.ref zoa))) (mlTurnRule___init__:K.lookup zoa=some ⟨zsc,zjc,.func (W.fnOf "__init__" "TurnRule.__init__" (defArgs s_turn_init) (defBody s_turn_init) (defScope s_turn_init) .none ztc zuc zvc zkc zPa zwc),zmc⟩) (mcTurnRule___init__:W.codeIn K zPa "TurnRule.__init__" = true) (zyc:W.keepIn K (.ref zoa)=true) (mfTurnRule___init__:W.isFn K (.ref zoa)=true) (kcTurnRule:W.keepIn K (.ref zda)=true) (zGf:W.kitOne K (.ref zda) (.ref C_Rule)=some true) (zKe:W.kitOne K (.ref zda) (.ref zda)=some true) (xMOST_SIGNS:W.nsIn K mainGlobals "MOST_SIGNS" = some (some (.int 4 tkMOST_SIGNS))) (xMOST_RULES:W.nsIn K mainGlobals "MOST_RULES" = some (some (.int 24 tkMOST_RULES))) (xMOST_NAMES:W.nsIn K mainGlobals "MOST_NAMES" = some (some (.int 8 tkMOST_NAMES))) (xMOST:W.nsIn K mainGlobals "MOST" = some (some (.int 6 tkMOST))) (q01:W.kitOne K (.ref zea) (.ref zba)=some false) (q02:W.kitOne K (.ref zea) (.ref zca)=some false) (q03:W.kitOne K (.ref zea) (.ref zda)=some false) (q10:W.kitOne K (.ref zba) (.ref zea)=some false) (q12:W.kitOne K (.ref zba) (.ref zca)=some false) (q13:W.kitOne K (.ref zba) (.ref zda)=some false) (q20:W.kitOne K (.ref zca) (.ref zea)=some false) (q21:W.kitOne K (.ref zca) (.ref zba)=some false) (q23:W.kitOne K (.ref zca) (.ref zda)=some false) (q30:W.kitOne K (.ref zda) (.ref zea)=some false) (q31:W.kitOne K (.ref zda) (.ref zba)=some false) (q32:W.kitOne K (.ref zda) (.ref zca)=some false) (fmCellRule_parts:W.findIn K (.ref zea) "parts" = some (some (.ref zja))) (mlRule_parts:K.lookup zja=some ⟨zQe,zNe,.func (W.fnOf "parts" "Rule.parts" (defArgs s_rule_parts) (defBody s_rule_parts) (defScope s_rule_parts) .none zRe zSe zTe zOe zKc zUe),zPe⟩) (mcRule_parts:W.codeIn K zKc "Rule.parts" = true) (zEa:W.keepIn K (.ref zja)=true) (mfRule_parts:W.isFn K (.ref zja)=true) (fmCellRule_made:W.findIn K (.ref zea) "made" = some (some (.ref zxa))) (mlCellRule_made:K.lookup zxa=some ⟨zRd,zFd,.func (W.fnOf "made" "CellRule.made" (defArgs s_cell_made) (defBody s_cell_made) (defScope s_cell_made) .none zSd zTd zUd zGd zpb zVd),zKd⟩) (mcCellRule_made:W.codeIn K zpb "CellRule.made" = true) (zsb:W.keepIn K (.ref zxa)=true) (mfCellRule_made:W.isFn K (.ref zxa)=true) (fmBesideRule_parts:W.findIn K (.ref zba) "parts" = some (some (.ref zja))) (fmBesideRule_made:W.findIn K (.ref zba) "made" = some (some (.ref zra))) (mlBesideRule_made:K.lookup zra=some ⟨zZc,zWc,.func (W.fnOf "made" "BesideRule.made" (defArgs s_beside_made) (defBody s_beside_made) (defScope s_beside_made) .none zad zbd zcd zXc zbb zdd),zYc⟩) (mcBesideRule_made:W.codeIn K zbb "BesideRule.made" = true) (zcb:W.keepIn K (.ref zra)=true) (mfBesideRule_made:W.isFn K (.ref zra)=true) (fmAboveRule_parts:W.findIn K (.ref zca) "parts" = some (some (.ref zja))) (fmAboveRule_made:W.findIn K (.ref zca) "made" = some (some (.ref zva))) (mlAboveRule_made:K.lookup zva=some ⟨zsd,zpd,.func (W.fnOf "made" "AboveRule.made" (defArgs s_above_made) (defBody s_above_made) (defScope s_above_made) .none ztd zud zvd zqd zib zwd),zrd⟩) (mcAboveRule_made:W.codeIn K zib "AboveRule.made" = true) (zjb:W.keepIn K (.ref zva)=true) (mfAboveRule_made:W.isFn K (.ref zva)=true) (fmTurnRule_parts:W.findIn K (.ref zda) "parts" = some (some (.ref zja))) (fmTurnRule_made:W.findIn K (.ref zda) "made" = some (some (.ref zya))) (mlTurnRule_made:K.lookup zya=some ⟨zWd,zHd,.func (W.fnOf "made" "TurnRule.made" (defArgs s_turn_made) (defBody s_turn_made) (defScope s_turn_made) .none zXd zYd zZd zId zqb zae),zLd⟩) (mcTurnRule_made:W.codeIn K zqb "TurnRule.made" = true) (ztb:W.keepIn K (.ref zya)=true) (mfTurnRule_made:W.isFn K (.ref zya)=true) (xGrammar:W.nsIn K mainGlobals "Grammar" = some (some (.ref zfa))) (zHf:W.plainGet K zfa Str.empty=true) (zIf:W.hasDictIn K zfa=true) (zJf:W.plainOver K zfa=true) (zKf:W.findIn K (.ref zfa) "__setattr__" = some (some (.builtin "object.__setattr__"))) (zLf:W.findIn K (.ref zfa) "__class__" = some (some (.builtin "object.__class__"))) (zMf:W.mroIn K zfa (.type "object")=some true) (zje:W.findIn K (.ref zfa) "signs" = some none) (zke:W.findIn K (.ref zfa) "start" = some none) (zGe:W.findIn K (.ref zfa) "kept" = some none) (zhd:W.findIn K (.ref zfa) "numbers" = some none) (miGrammar:W.makesIn K zfa=true) (fiGrammar:W.findIn K (.ref zfa) "__init__" = some (some (.ref zqa))) (mlGrammar___init__:K.lookup zqa=some ⟨zLc,zHc,.func (W.fnOf "__init__" "Grammar.__init__" (defArgs s_gram_init) (defBody s_gram_init) (defScope s_gram_init) .none zMc zNc zOc zIc zWa zPc),zJc⟩) (mcGrammar___init__:W.codeIn K zWa "Grammar.__init__" = true) (zSc:W.keepIn K (.ref zqa)=true) (mfGrammar___init__:W.isFn K (.ref zqa)=true) (kcGrammar:W.keepIn K (.ref zfa)=true) (fmGrammar_rule:W.findIn K (.ref zfa) "rule" = some (some (.ref zAa))) (mlGrammar_rule:K.lookup zAa=some ⟨zwe,zqe,.func (W.fnOf "rule" "Grammar.rule" (defArgs s_gram_rule) (defBody s_gram_rule) (defScope s_gram_rule) .none zxe zye zze zre zJb zAe),zue⟩) (mcGrammar_rule:W.codeIn K zJb "Grammar.rule" = true) (zPb:W.keepIn K (.ref zAa)=true) (mfGrammar_rule:W.isFn K (.ref zAa)=true) (fmGrammar_many:W.findIn K (.ref zfa) "many" = some (some (.ref zBa))) (mlGrammar_many:K.lookup zBa=some ⟨zBe,zse,.func (W.fnOf "many" "Grammar.many" (defArgs s_gram_many) (defBody s_gram_many) (defScope s_gram_many) .none zCe zDe zEe zte zKb zFe),zve⟩) (mcGrammar_many:W.codeIn K zKb "Grammar.many" = true) (zQb:W.keepIn K (.ref zBa)=true) (mfGrammar_many:W.isFn K (.ref zBa)=true)
  (z0:W.nsIn K mainGlobals "len" = some none) (z1:W.nsIn K mainGlobals "range" = some none) (z2:W.nsIn K mainGlobals "list" = some none) (z3:W.nsIn K mainGlobals "tuple" = some none) (z4:W.nsIn K mainGlobals "isinstance" = some none) (z5:W.nsIn K mainGlobals "int" = some none) (z6:W.nsIn K mainGlobals "bool" = some none) (z7:W.nsIn K mainGlobals "str" = some none) (z8:W.nsIn K mainGlobals "reversed" = some none) (z9:W.nsIn K mainGlobals "all" = some none) (z10:W.nsIn K mainGlobals "enumerate" = some none) (z11:W.nsIn K mainGlobals "zip" = some none) (z12:W.nsIn K mainGlobals "sorted" = some none) (z13:W.nsIn K mainGlobals "set" = some none) (z14:W.nsIn K mainGlobals "dict" = some none) (z15:W.nsIn K mainGlobals "min" = some none) (z16:W.nsIn K mainGlobals "max" = some none) (z17:W.nsIn K mainGlobals "sum" = some none) (z18:W.nsIn K mainGlobals "ValueError" = some none) :
  ∃ fd:FuncData,(∀ (s:Shared) (v:Value),BindsTo s fd ⟨[v],[]⟩ [("_law_script",v)])∧∀ base:Heap,K.In base→base.Ns mainGlobals mg→FnOk l.prog w K mg base CX0 27 fa fd ["_law_script"] (sp_law K):=by
 have e:=hfa.symm.trans (W.mg_of X G a35)
 cases e
 have nb:NB mg:=⟨W.mg_none_of X G z0,W.mg_none_of X G z1,W.mg_none_of X G z2,W.mg_none_of X G z3,W.mg_none_of X G z4,W.mg_none_of X G z5,W.mg_none_of X G z6,W.mg_none_of X G z7,W.mg_none_of X G z8,W.mg_none_of X G z9,W.mg_none_of X G z10,W.mg_none_of X G z11,W.mg_none_of X G z12,W.mg_none_of X G z13,W.mg_none_of X G z14,W.mg_none_of X G z15,W.mg_none_of X G z16,W.mg_none_of X G z17,W.mg_none_of X G z18⟩
 have F1:=fun_mk (st:=s_only_of) l1 c1 k1
 have b1:=F1.binds (ps:=["text","letters"]) fun _ _ _ _ _ _ us hl=>match us,hl with | [_,_],_=>rfl
 have F2:=fun_mk (st:=s_is_name) l2 c2 k2
 have b2:=F2.binds (ps:=["text"]) fun _ _ _ _ _ _ us hl=>match us,hl with | [_],_=>rfl
 have F3:=fun_mk (st:=s_are_signs) l3 c3 k3
 have b3:=F3.binds (ps:=["text"]) fun _ _ _ _ _ _ us hl=>match us,hl with | [_],_=>rfl
 have F4:=fun_mk (st:=s_check_made_of) l4 c4 k4
 have b4:=F4.binds (ps:=["signs","start","rules"]) fun _ _ _ _ _ _ us hl=>match us,hl with | [_,_,_],_=>rfl
 have F5:=fun_mk (st:=s_numbers_by_name) l5 c5 k5
 have b5:=F5.binds (ps:=["start","rules"]) fun _ _ _ _ _ _ us hl=>match us,hl with | [_,_],_=>rfl
 have F6:=fun_mk (st:=s_beside) l6 c6 k6
 have b6:=F6.binds (ps:=["one","other"]) fun _ _ _ _ _ _ us hl=>match us,hl with | [_,_],_=>rfl
 have F7:=fun_mk (st:=s_above) l7 c7 k7
 have b7:=F7.binds (ps:=["one","other"]) fun _ _ _ _ _ _ us hl=>match us,hl with | [_,_],_=>rfl
 have F8:=fun_mk (st:=s_mirror) l8 c8 k8
 have b8:=F8.binds (ps:=["picture"]) fun _ _ _ _ _ _ us hl=>match us,hl with | [_],_=>rfl
 have F9:=fun_mk (st:=s_column_from_below) l9 c9 k9
 have b9:=F9.binds (ps:=["picture","i"]) fun _ _ _ _ _ _ us hl=>match us,hl with | [_,_],_=>rfl
 have F10:=fun_mk (st:=s_quarter) l10 c10 k10
 have b10:=F10.binds (ps:=["picture"]) fun _ _ _ _ _ _ us hl=>match us,hl with | [_],_=>rfl
 have F11:=fun_mk (st:=s_turned) l11 c11 k11
 have b11:=F11.binds (ps:=["picture","t"]) fun _ _ _ _ _ _ us hl=>match us,hl with | [_,_],_=>rfl
 have F12:=fun_mk (st:=s_check_form) l12 c12 k12
 have b12:=F12.binds (ps:=["grammar","tree","place","name"]) fun _ _ _ _ _ _ us hl=>match us,hl with | [_,_,_,_],_=>rfl
 have F13:=fun_mk (st:=s_lay) l13 c13 k13
 have b13:=F13.binds (ps:=["grammar","tree","place"]) fun _ _ _ _ _ _ us hl=>match us,hl with | [_,_,_],_=>rfl
 have F14:=fun_mk (st:=s_laid) l14 c14 k14
 have b14:=F14.binds (ps:=["grammar","tree"]) fun _ _ _ _ _ _ us hl=>match us,hl with | [_,_],_=>rfl
 have F15:=fun_mk (st:=s_numbers_in) l15 c15 k15
 have b15:=F15.binds (ps:=["tree"]) fun _ _ _ _ _ _ us hl=>match us,hl with | [_],_=>rfl
 have F16:=fun_mk (st:=s_tree_fault) l16 c16 k16
 have b16:=F16.binds (ps:=["grammar","tree"]) fun _ _ _ _ _ _ us hl=>match us,hl with | [_,_],_=>rfl
 have F17:=fun_mk (st:=s_cost_of) l17 c17 k17
 have b17:=F17.binds (ps:=["grammar","tree"]) fun _ _ _ _ _ _ us hl=>match us,hl with | [_,_],_=>rfl
 have F18:=fun_mk (st:=s_l_cell) l18 c18 k18
 have b18:=F18.binds (ps:=["_law_script","_law_k"]) fun _ _ _ _ _ _ us hl=>match us,hl with | [_,_],_=>rfl
 have F19:=fun_mk (st:=s_l_signs) l19 c19 k19
 have b19:=F19.binds (ps:=["_law_cell_here","_law_most"]) fun _ _ _ _ _ _ us hl=>match us,hl with | [_,_],_=>rfl
 have F20:=fun_mk (st:=s_l_names) l20 c20 k20
 have b20:=F20.binds (ps:=["_law_cell_here"]) fun _ _ _ _ _ _ us hl=>match us,hl with | [_],_=>rfl
 have F21:=fun_mk (st:=s_l_quarter) l21 c21 k21
 have b21:=F21.binds (ps:=["_law_rows"]) fun _ _ _ _ _ _ us hl=>match us,hl with | [_],_=>rfl
 have F22:=fun_mk (st:=s_l_turned) l22 c22 k22
 have b22:=F22.binds (ps:=["_law_rows","_law_t"]) fun _ _ _ _ _ _ us hl=>match us,hl with | [_,_],_=>rfl
 have F23:=fun_mk (st:=s_l_put) l23 c23 k23
 have b23:=F23.binds (ps:=["_law_told","_law_pictures"]) fun _ _ _ _ _ _ us hl=>match us,hl with | [_,_],_=>rfl
 have F24:=fun_mk (st:=s_l_rule) l24 c24 k24
 have b24:=F24.binds (ps:=["_law_told"]) fun _ _ _ _ _ _ us hl=>match us,hl with | [_],_=>rfl
 have F25:=fun_mk (st:=s_l_drawn_rule) l25 c25 k25
 have b25:=F25.binds (ps:=["_law_cell_here","_law_names_here","_law_signs_here"]) fun _ _ _ _ _ _ us hl=>match us,hl with | [_,_,_],_=>rfl
 have F26:=fun_mk (st:=s_l_next) l26 c26 k26
 have b26:=F26.binds (ps:=["_law_stock","_law_cell_here","_law_names_here","_law_signs_here"]) fun _ _ _ _ _ _ us hl=>match us,hl with | [_,_,_,_],_=>rfl
 have F27:=fun_mk (st:=s_l_number) l27 c27 k27
 have b27:=F27.binds (ps:=["_law_rules","_law_told","_law_again"]) fun _ _ _ _ _ _ us hl=>match us,hl with | [_,_,_],_=>rfl
 have F28:=fun_mk (st:=s_l_grown) l28 c28 k28
 have b28:=F28.binds (ps:=["_law_cells","_law_names_here","_law_signs_here","_law_most"]) fun _ _ _ _ _ _ us hl=>match us,hl with | [_,_,_,_],_=>rfl
 have F29:=fun_mk (st:=s_l_grammar) l29 c29 k29
 have b29:=F29.binds (ps:=["_law_rules","_law_names_here","_law_signs_here"]) fun _ _ _ _ _ _ us hl=>match us,hl with | [_,_,_],_=>rfl
 have F30:=fun_mk (st:=s_l_drawn) l30 c30 k30
 have b30:=F30.binds (ps:=["_law_script","_law_most","_law_steps"]) fun _ _ _ _ _ _ us hl=>match us,hl with | [_,_,_],_=>rfl
 have F31:=fun_mk (st:=s_l_whole) l31 c31 k31
 have b31:=F31.binds (ps:=["_law_found"]) fun _ _ _ _ _ _ us hl=>match us,hl with | [_],_=>rfl
 have F32:=fun_mk (st:=s_l_texts) l32 c32 k32
 have b32:=F32.binds (ps:=["_law_found","_law_due"]) fun _ _ _ _ _ _ us hl=>match us,hl with | [_,_],_=>rfl
 have F33:=fun_mk (st:=s_l_numbers) l33 c33 k33
 have b33:=F33.binds (ps:=["_law_tree"]) fun _ _ _ _ _ _ us hl=>match us,hl with | [_],_=>rfl
 have F34:=fun_mk (st:=s_l_good) l34 c34 k34
 have b34:=F34.binds (ps:=["_law_grammar_here","_law_one"]) fun _ _ _ _ _ _ us hl=>match us,hl with | [_,_],_=>rfl
 have F35:=fun_mk (st:=s_law) l35 c35 k35
 refine ⟨W.fnOf "law" "law" (defArgs s_law) (defBody s_law) (defScope s_law) .none kV35 dc35 pm35 an35 cd35 ct35,fun s v=>.of_eq rfl,fun base _ _=>?_⟩
 have zza:=W.mg_of X G xNoRule
 have xc_NoRule:XCls K zga [.type "ValueError",.type "Exception",.type "BaseException",.type "object"] "ValueError.__new__":=⟨xeNoRule⟩
 have zsa:XR K zga:=⟨_,_,_,_,_,_,_,_,⟨xeNoRule⟩,PySem.F.excBase_ValueError,rfl,PySem.F.excBase_ValueError⟩
 have xt_NoRule:W.XTy K zga:=⟨xgaNoRule,xghNoRule,xmbNoRule,xmoNoRule,xhaNoRule,xhn,xtk,_,_,_,xlNoRule⟩
 have zfb:=W.mg_of X G xNoFit
 have xc_NoFit:XCls K zha [.type "ValueError",.type "Exception",.type "BaseException",.type "object"] "ValueError.__new__":=⟨xeNoFit⟩
 have zSa:XR K zha:=⟨_,_,_,_,_,_,_,_,⟨xeNoFit⟩,PySem.F.excBase_ValueError,rfl,PySem.F.excBase_ValueError⟩
 have xt_NoFit:W.XTy K zha:=⟨xgaNoFit,xghNoFit,xmbNoFit,xmoNoFit,xhaNoFit,xhn,xtk,_,_,_,xlNoFit⟩
 have und_NoFit_NoFit:Under K zha zha:=⟨_,_,_,xlNoFit,zLe⟩
 have zpa:=W.mg_of X G xNoGrammar
 have zbf:XOut K zaa [.type "ValueError",.type "Exception",.type "BaseException",.type "object"] "ValueError.__new__":=⟨xeoNoGrammar⟩
 have xt_NoGrammar:W.XTy K zaa:=⟨xgaNoGrammar,xghNoGrammar,xmbNoGrammar,xmoNoGrammar,xhaNoGrammar,xhn,xtk,_,_,_,xlNoGrammar⟩
 have clNoGrammar:W.clsIn K zaa=some zta:=by unfold W.clsIn;rw [xlNoGrammar]
 have xh_NoGrammar:W.hasDictIn K zaa=true:=by unfold W.hasDictIn;rw [clNoGrammar];exact xhdNoGrammar
 have FINoGrammar:=fun_mk (st:=s_ginit) xflNoGrammar xfcNoGrammar xfkNoGrammar
 have xsINoGrammar:W.XSt K zaa "why":=⟨xsaNoGrammar,⟨zta,clNoGrammar,xstNoGrammar,xhdNoGrammar,xobNoGrammar,xneNoGrammar⟩,xw_NoGrammar⟩
 have bINoGrammar:=FINoGrammar.binds (ps:=["self","why"]) fun _ _ _ _ _ _ us hl=>match us,hl with | [_,_],_=>rfl
 have zla:XI l.prog w K mg base 1 zaa "why":=⟨_,_,_,_,_,_,_,_,zHa,_,_,zbf,PySem.F.excBase_ValueError,rfl,PySem.F.excBase_ValueError,xfiNoGrammar,xftNoGrammar,ok_ginit FINoGrammar xsINoGrammar,bINoGrammar⟩
 have und_NoGrammar_NoGrammar:Under K zaa zaa:=⟨_,_,_,xlNoGrammar,zLb⟩
 have m_NoTree:=W.mg_of X G xNoTree
 have xo_NoTree:XOut K C_NoTree [.type "ValueError",.type "Exception",.type "BaseException",.type "object"] "ValueError.__new__":=⟨xeoNoTree⟩
 have xt_NoTree:W.XTy K C_NoTree:=⟨xgaNoTree,xghNoTree,xmbNoTree,xmoNoTree,xhaNoTree,xhn,xtk,_,_,_,xlNoTree⟩
 have clNoTree:W.clsIn K C_NoTree=some cdNoTree:=by unfold W.clsIn;rw [xlNoTree]
 have xh_NoTree:W.hasDictIn K C_NoTree=true:=by unfold W.hasDictIn;rw [clNoTree];exact xhdNoTree
 have FINoTree:=fun_mk (st:=s_tinit) xflNoTree xfcNoTree xfkNoTree
 have xsINoTree:W.XSt K C_NoTree "why":=⟨xsaNoTree,⟨cdNoTree,clNoTree,xstNoTree,xhdNoTree,xobNoTree,xneNoTree⟩,xw_NoTree⟩
 have bINoTree:=FINoTree.binds (ps:=["self","why"]) fun _ _ _ _ _ _ us hl=>match us,hl with | [_,_],_=>rfl
 have xi_NoTree:XI l.prog w K mg base 1 C_NoTree "why":=⟨_,_,_,_,_,_,_,_,fINoTree,_,_,xo_NoTree,PySem.F.excBase_ValueError,rfl,PySem.F.excBase_ValueError,xfiNoTree,xftNoTree,ok_tinit FINoTree xsINoTree,bINoTree⟩
 have und_NoTree_NoTree:Under K C_NoTree C_NoTree:=⟨_,_,_,xlNoTree,xmNoTree_NoTree⟩
 have m_CAPITALS:=W.mg_of X G xCAPITALS
 have m_SMALLS:=W.mg_of X G xSMALLS
 have m_LONGEST_NAME:=W.mg_of X G xLONGEST_NAME
 have m_Rule:=W.mg_of X G xRule
 have zub:=fun_mk (st:=s_rule_init) mlRule___init__ mcRule___init__ zrb
 have zle:=zub.binds (ps:=["self","name","cost","part_names"]) fun _ _ _ _ _ _ us hl=>match us,hl with | [_,_,_,_],_=>rfl
 have cf_Rule___init__:ClsFn K C_Rule "__init__" zwa:=⟨spRule,rdRule,fcRule___init__,zrb⟩
 have zeb:=W.mg_of X G xCellRule
 have zUa:ICls K zea:=⟨⟨zqf,zrf,zsf,ztf⟩,zuf,xhn,xtk,zvf⟩
 have zQa:=fun_mk (st:=s_cell_init) mlCellRule___init__ mcCellRule___init__ zxc
 have zzc:=zQa.binds (ps:=["self","name","cost","sign"]) fun _ _ _ _ _ _ us hl=>match us,hl with | [_,_,_,_],_=>rfl
 have zmf:Mk K zea zna:=⟨miCellRule,fiCellRule,mfCellRule___init__,kcCellRule⟩
 have zcf:=W.mg_of X G xBesideRule
 have zab:ICls K zba:=⟨⟨zVe,zWe,zXe,zYe⟩,zZe,xhn,xtk,zaf⟩
 have zJa:=fun_mk (st:=s_beside_init) mlBesideRule___init__ mcBesideRule___init__ zNb
 have zRb:=zJa.binds (ps:=["self","name","cost","one","other"]) fun _ _ _ _ _ _ us hl=>match us,hl with | [_,_,_,_,_],_=>rfl
 have zMe:Mk K zba zka:=⟨miBesideRule,fiBesideRule,mfBesideRule___init__,kcBesideRule⟩
 have znf:=W.mg_of X G xAboveRule
 have zkb:ICls K zca:=⟨⟨zgf,zhf,zif,zjf⟩,zkf,xhn,xtk,zlf⟩
 have zLa:=fun_mk (st:=s_above_init) mlAboveRule___init__ mcAboveRule___init__ zfc
 have zgc:=zLa.binds (ps:=["self","name","cost","one","other"]) fun _ _ _ _ _ _ us hl=>match us,hl with | [_,_,_,_,_],_=>rfl
 have zdf:Mk K zca zma:=⟨miAboveRule,fiAboveRule,mfAboveRule___init__,kcAboveRule⟩
 have zDf:=W.mg_of X G xTurnRule
 have zVa:ICls K zda:=⟨⟨zxf,zyf,zzf,zAf⟩,zBf,xhn,xtk,zCf⟩
 have zRa:=fun_mk (st:=s_turn_init) mlTurnRule___init__ mcTurnRule___init__ zyc
 have zAc:=zRa.binds (ps:=["self","name","cost","part","turning"]) fun _ _ _ _ _ _ us hl=>match us,hl with | [_,_,_,_,_],_=>rfl
 have zof:Mk K zda zoa:=⟨miTurnRule,fiTurnRule,mfTurnRule___init__,kcTurnRule⟩
 let R:RC:=⟨C_Rule,zea,zba,zca,zda⟩
 have rk:RKit K R:=⟨zUa,zab,zkb,zVa,⟨zbe,zce,zMb,zde⟩,⟨zed,zfd,zmb,zxd,zQc⟩,⟨zyd,zzd,zAb,zee,zgd⟩,⟨zge,zhe,zOb,zie,zRc⟩,zFf,zff,zwf,zGf,zJe,zmd,zfe,zKe⟩
 have m_MOST_SIGNS:=W.mg_of X G xMOST_SIGNS
 have m_MOST_RULES:=W.mg_of X G xMOST_RULES
 have m_MOST_NAMES:=W.mg_of X G xMOST_NAMES
 have m_MOST:=W.mg_of X G xMOST
 have rk4:RKit4 K R:=⟨fun i j hi hj=>by rcases k_cases hi with rfl | rfl | rfl | rfl <;> rcases k_cases hj with rfl | rfl | rfl | rfl;exact zJe;exact q01;exact q02;exact q03;exact q10;exact zmd;exact q12;exact q13;exact q20;exact q21;exact zfe;exact q23;exact q30;exact q31;exact q32;exact zKe⟩
 have zFa:=fun_mk (st:=s_rule_parts) mlRule_parts mcRule_parts zEa
 have zMa:=zFa.binds (ps:=["self"]) fun _ _ _ _ _ _ us hl=>match us,hl with | [_],_=>rfl
 have zid:Meth K zea "parts" zja:=⟨fmCellRule_parts,mfRule_parts,zEa⟩
 have zvb:=fun_mk (st:=s_cell_made) mlCellRule_made mcCellRule_made zsb
 have zme:=zvb.binds (ps:=["self","pictures"]) fun _ _ _ _ _ _ us hl=>match us,hl with | [_,_],_=>rfl
 have zAd:Meth K zea "made" zxa:=⟨fmCellRule_made,mfCellRule_made,zsb⟩
 have zBc:Meth K zba "parts" zja:=⟨fmBesideRule_parts,mfRule_parts,zEa⟩
 have zdb:=fun_mk (st:=s_beside_made) mlBesideRule_made mcBesideRule_made zcb
 have zjd:=zdb.binds (ps:=["self","pictures"]) fun _ _ _ _ _ _ us hl=>match us,hl with | [_,_],_=>rfl
 have zTc:Meth K zba "made" zra:=⟨fmBesideRule_made,mfBesideRule_made,zcb⟩
 have zUc:Meth K zca "parts" zja:=⟨fmAboveRule_parts,mfRule_parts,zEa⟩
 have zlb:=fun_mk (st:=s_above_made) mlAboveRule_made mcAboveRule_made zjb
 have zBd:=zlb.binds (ps:=["self","pictures"]) fun _ _ _ _ _ _ us hl=>match us,hl with | [_,_],_=>rfl
 have zkd:Meth K zca "made" zva:=⟨fmAboveRule_made,mfAboveRule_made,zjb⟩
 have zld:Meth K zda "parts" zja:=⟨fmTurnRule_parts,mfRule_parts,zEa⟩
 have zwb:=fun_mk (st:=s_turn_made) mlTurnRule_made mcTurnRule_made ztb
 have zne:=zwb.binds (ps:=["self","pictures"]) fun _ _ _ _ _ _ us hl=>match us,hl with | [_,_],_=>rfl
 have zCd:Meth K zda "made" zya:=⟨fmTurnRule_made,mfTurnRule_made,ztb⟩
 have zNf:=W.mg_of X G xGrammar
 have zNa:ICls K zfa:=⟨⟨zHf,zIf,zJf,zKf⟩,zLf,xhn,xtk,zMf⟩
 have zXa:=fun_mk (st:=s_gram_init) mlGrammar___init__ mcGrammar___init__ zSc
 have zVc:=zXa.binds (ps:=["self","signs","start","rules"]) fun _ _ _ _ _ _ us hl=>match us,hl with | [_,_,_,_],_=>rfl
 have zEf:Mk K zfa zqa:=⟨miGrammar,fiGrammar,mfGrammar___init__,kcGrammar⟩
 have gk:GNA K zfa:=⟨zNa,zje,zke,zGe,zhd⟩
 have zSb:=fun_mk (st:=s_gram_rule) mlGrammar_rule mcGrammar_rule zPb
 have zHe:=zSb.binds (ps:=["self","k"]) fun _ _ _ _ _ _ us hl=>match us,hl with | [_,_],_=>rfl
 have zoe:Meth K zfa "rule" zAa:=⟨fmGrammar_rule,mfGrammar_rule,zPb⟩
 have zTb:=fun_mk (st:=s_gram_many) mlGrammar_many mcGrammar_many zQb
 have zIe:=zTb.binds (ps:=["self"]) fun _ _ _ _ _ _ us hl=>match us,hl with | [_],_=>rfl
 have zpe:Meth K zfa "many" zBa:=⟨fmGrammar_many,mfGrammar_many,zQb⟩
 have c_only_of:Cal l.prog w K mg base CX0 1 "only_of" ["text","letters"] (sp_only_of):=⟨_,_,ok_only_of F1 nb,W.mg_of X G a1,k1,b1⟩
 have c_is_name:Cal l.prog w K mg base CX0 2 "is_name" ["text"] (sp_is_name):=⟨_,_,ok_is_name F2 nb m_LONGEST_NAME m_CAPITALS c_only_of,W.mg_of X G a2,k2,b2⟩
 have zia:CalC l.prog w K mg base (CX1 l.prog w) 3 "Rule" "__init__" ["self","name","cost","part_names"] (sp_rule_init K zga):=⟨_,_,_,ok_rule_init zub nb zza zsa c_is_name,m_Rule,cf_Rule___init__,zle⟩
 have zDa:CalK l.prog w K mg base (CX1 l.prog w) 4 "CellRule" zea ["self","name","cost","sign"] (sp_cell_init K zga):=⟨_,_,ok_cell_init zQa nb m_SMALLS zza zsa c_only_of zia,zeb,zmf,zzc⟩
 have zYa:CalK l.prog w K mg base (CX1 l.prog w) 4 "BesideRule" zba ["self","name","cost","one","other"] (sp_pair_init K zga):=⟨_,_,ok_beside_init zJa nb zia,zcf,zMe,zRb⟩
 have zhb:CalK l.prog w K mg base (CX1 l.prog w) 4 "AboveRule" zca ["self","name","cost","one","other"] (sp_pair_init K zga):=⟨_,_,ok_above_init zLa nb zia,znf,zdf,zgc⟩
 have zxb:CalK l.prog w K mg base (CX1 l.prog w) 4 "TurnRule" zda ["self","name","cost","part","turning"] (sp_turn_init K zga):=⟨_,_,ok_turn_init zRa nb zza zsa zia,zDf,zof,zAc⟩
 have cp_parts:CalP l.prog w K mg base CX0 1 "parts" (oParts K R):=calP4 ⟨_,_,_,ok_rule_parts zFa nb,zUa.cl,zid,zMa⟩ ⟨_,_,_,ok_rule_parts zFa nb,zab.cl,zBc,zMa⟩ ⟨_,_,_,ok_rule_parts zFa nb,zkb.cl,zUc,zMa⟩ ⟨_,_,_,ok_rule_parts zFa nb,zVa.cl,zld,zMa⟩
 have c_are_signs:Cal l.prog w K mg base CX0 2 "are_signs" ["text"] (sp_are_signs):=⟨_,_,ok_are_signs F3 nb m_MOST_SIGNS m_SMALLS c_only_of,W.mg_of X G a3,k3,b3⟩
 have c_check_made_of:Cal l.prog w K mg base (CX1 l.prog w) 3 "check_made_of" ["signs","start","rules"] (sp_check_made_of R zaa):=⟨_,_,ok_check_made_of F4 nb rk rk4 m_MOST_RULES zeb zpa zla c_are_signs c_is_name,W.mg_of X G a4,k4,b4⟩
 have c_numbers_by_name:Cal l.prog w K mg base CX0 2 "numbers_by_name" ["start","rules"] (sp_numbers_by_name K R):=⟨_,_,ok_numbers_by_name F5 nb rk cp_parts,W.mg_of X G a5,k5,b5⟩
 have zGa:CalK l.prog w K mg base (CX1 l.prog w) 4 "Grammar" zfa ["self","signs","start","rules"] (sp_gram_init K R zaa):=⟨_,_,ok_gram_init zXa nb m_MOST_NAMES zpa zla c_check_made_of c_numbers_by_name,zNf,zEf,zVc⟩
 have cm_rule:CalM l.prog w K mg base CX0 1 zfa "rule" ["self","k"] (sp_gram_rule R zfa):=⟨_,_,ok_gram_rule zSb nb zNa.cl gk.na,zNa.cl,zoe,zHe⟩
 have cm_many:CalM l.prog w K mg base CX0 1 zfa "many" ["self"] (sp_gram_many R zfa):=⟨_,_,ok_gram_many zTb nb zNa.cl gk.na,zNa.cl,zpe,zIe⟩
 have c_beside:Cal l.prog w K mg base (CX1 l.prog w) 1 "beside" ["one","other"] (sp_beside K zha):=⟨_,_,ok_beside F6 nb m_MOST zfb zSa,W.mg_of X G a6,k6,b6⟩
 have c_above:Cal l.prog w K mg base (CX1 l.prog w) 1 "above" ["one","other"] (sp_above K zha):=⟨_,_,ok_above F7 nb m_MOST zfb zSa,W.mg_of X G a7,k7,b7⟩
 have c_mirror:Cal l.prog w K mg base CX0 1 "mirror" ["picture"] (sp_mirror K):=⟨_,_,ok_mirror F8 nb,W.mg_of X G a8,k8,b8⟩
 have c_column_from_below:Cal l.prog w K mg base CX0 1 "column_from_below" ["picture","i"] (sp_column K):=⟨_,_,ok_column F9 nb,W.mg_of X G a9,k9,b9⟩
 have c_quarter:Cal l.prog w K mg base CX0 2 "quarter" ["picture"] (sp_quarter K):=⟨_,_,ok_quarter F10 nb c_column_from_below,W.mg_of X G a10,k10,b10⟩
 have znd:Cal l.prog w K mg base CX0 3 "turned" ["picture","t"] (sp_turned K):=⟨_,_,ok_turned F11 nb c_mirror c_quarter,W.mg_of X G a11,k11,b11⟩
 have cp_made:CalP l.prog w K mg base (CX1 l.prog w) 4 "made" (oMade K R zha):=calP4 ⟨_,_,_,(ok_cell_made zvb zUa.cl rk.a0.2.2.2).lift.mono (by decide),zUa.cl,zAd,zme⟩ ⟨_,_,_,(ok_beside_made zdb c_beside).mono (by decide),zab.cl,zTc,zjd⟩ ⟨_,_,_,(ok_above_made zlb c_above).mono (by decide),zkb.cl,zkd,zBd⟩ ⟨_,_,_,(ok_turn_made zwb zVa.cl rk.a3.2.2.2.2 znd).lift,zVa.cl,zCd,zne⟩
 have c_check_form:Cal l.prog w K mg base (CX1 l.prog w) 22 "check_form" ["grammar","tree","place","name"] (sp_check_form K R zfa 18):=⟨_,_,ok_check_form F12 nb rk m_NoTree xi_NoTree cp_parts cm_rule cm_many (W.mg_of X G a12) k12 b12 18 (by decide),W.mg_of X G a12,k12,b12⟩
 have c_lay:Cal l.prog w K mg base CX0 23 "lay" ["grammar","tree","place"] (sp_lay K R zfa 18):=⟨_,_,ok_lay F13 nb cp_made cm_rule (W.mg_of X G a13) k13 b13 18 (by decide),W.mg_of X G a13,k13,b13⟩
 have c_laid:Cal l.prog w K mg base CX0 24 "laid" ["grammar","tree"] (sp_laid R zfa):=⟨_,_,ok_laid F14 nb c_check_form c_lay,W.mg_of X G a14,k14,b14⟩
 have c_numbers_in:Cal l.prog w K mg base CX0 19 "numbers_in" ["tree"] (sp_numbers_in 18):=⟨_,_,ok_numbers_in F15 nb (W.mg_of X G a15) k15 b15 18 (by decide),W.mg_of X G a15,k15,b15⟩
 have c_tree_fault:Cal l.prog w K mg base CX0 25 "tree_fault" ["grammar","tree"] (sp_tree_fault R zfa):=⟨_,_,ok_tree_fault F16 nb c_laid,W.mg_of X G a16,k16,b16⟩
 have c_cost_of:Cal l.prog w K mg base CX0 25 "cost_of" ["grammar","tree"] (sp_cost_of R zfa):=⟨_,_,ok_cost_of F17 nb nb.sum rk cm_rule c_laid c_numbers_in,W.mg_of X G a17,k17,b17⟩
 have zCa:Cal l.prog w K mg base CX0 1 "_law_cell" ["_law_script","_law_k"] (sp_l_cell K):=⟨_,_,ok_l_cell F18 nb,W.mg_of X G a18,k18,b18⟩
 have zDc:Cal l.prog w K mg base CX0 1 "_law_signs" ["_law_cell_here","_law_most"] (sp_l_signs):=⟨_,_,ok_l_signs F19 nb,W.mg_of X G a19,k19,b19⟩
 have zCc:Cal l.prog w K mg base CX0 1 "_law_names" ["_law_cell_here"] (sp_l_names):=⟨_,_,ok_l_names F20 nb,W.mg_of X G a20,k20,b20⟩
 have zyb:Cal l.prog w K mg base CX0 1 "_law_quarter" ["_law_rows"] (sp_l_quarter K):=⟨_,_,ok_l_quarter F21 nb,W.mg_of X G a21,k21,b21⟩
 have zUb:Cal l.prog w K mg base CX0 2 "_law_turned" ["_law_rows","_law_t"] (sp_l_turned K):=⟨_,_,ok_l_turned F22 nb zyb,W.mg_of X G a22,k22,b22⟩
 have zgb:Cal l.prog w K mg base CX0 3 "_law_put" ["_law_told","_law_pictures"] (sp_l_put):=⟨_,_,ok_l_put F23 nb zUb,W.mg_of X G a23,k23,b23⟩
 have zZa:Cal l.prog w K mg base CX0 6 "_law_rule_made" ["_law_told"] (sp_l_rule R):=⟨_,_,ok_l_rule F24 nb rk zDa zYa zhb zxb,W.mg_of X G a24,k24,b24⟩
 have zua:Cal l.prog w K mg base CX0 1 "_law_drawn_rule" ["_law_cell_here","_law_names_here","_law_signs_here"] (sp_l_drawn_rule):=⟨_,_,ok_l_drawn_rule F25 nb,W.mg_of X G a25,k25,b25⟩
 have zod:Cal l.prog w K mg base CX0 4 "_law_next" ["_law_stock","_law_cell_here","_law_names_here","_law_signs_here"] (sp_l_next):=⟨_,_,ok_l_next F26 nb zua zgb,W.mg_of X G a26,k26,b26⟩
 have zVb:Cal l.prog w K mg base CX0 1 "_law_number" ["_law_rules","_law_told","_law_again"] (sp_l_number):=⟨_,_,ok_l_number F27 nb,W.mg_of X G a27,k27,b27⟩
 have zEc:Cal l.prog w K mg base CX0 5 "_law_grown" ["_law_cells","_law_names_here","_law_signs_here","_law_most"] (sp_l_grown):=⟨_,_,ok_l_grown F28 nb nb.sum zod zgb zVb,W.mg_of X G a28,k28,b28⟩
 have zzb:Cal l.prog w K mg base CX0 7 "_law_grammar" ["_law_rules","_law_names_here","_law_signs_here"] (sp_l_grammar R zfa):=⟨_,_,ok_l_grammar F29 nb gk zZa zGa,W.mg_of X G a29,k29,b29⟩
 have zGc:Cal l.prog w K mg base CX0 8 "_law_drawn" ["_law_script","_law_most","_law_steps"] (sp_l_drawn K R zfa):=⟨_,_,ok_l_drawn F30 nb zCa zCc zDc zua zEc zzb,W.mg_of X G a30,k30,b30⟩
 have znb:Cal l.prog w K mg base CX0 1 "_law_whole" ["_law_found"] (sp_l_whole):=⟨_,_,ok_l_whole F31 nb,W.mg_of X G a31,k31,b31⟩
 have zFc:Cal l.prog w K mg base CX0 1 "_law_texts" ["_law_found","_law_due"] (sp_l_texts):=⟨_,_,ok_l_texts F32 nb,W.mg_of X G a32,k32,b32⟩
 have zTa:Cal l.prog w K mg base CX0 1 "_law_numbers" ["_law_tree"] (sp_l_numbers):=⟨_,_,ok_l_numbers F33 nb,W.mg_of X G a33,k33,b33⟩
 have zWb:Cal l.prog w K mg base CX0 26 "_law_good" ["_law_grammar_here","_law_one"] (sp_l_good R zfa):=⟨_,_,ok_l_good F34 nb c_laid c_tree_fault c_cost_of c_numbers_in zFc znb zTa,W.mg_of X G a34,k34,b34⟩
 exact ok_law F35 nb rk gk zDa zGa zGc zWb c_laid c_cost_of
theorem walk {l:W.OpenLaw} {q:Program} {loose:List Str} {XP:(Str→Option Value)→Heap→Prop} {YP:World→Heap→Prop} {d:DefRec} {K:Params→W.Frag} (hn:l.most=some 63) (hdf:d.params.defaults=[])
  (hY:∀ (w:World) (h:Heap),YP w h→(K w.params).In h)
  (F:∀ (w:World) (mg:Str→Option Value) (fa:Addr) (h:Heap),(K w.params).In h→h.Ns mainGlobals mg→mg d.name=some (.ref fa) →
   ∃ fd:FuncData,(∀ (s:Shared) (u:Value),BindsTo s fd ⟨[u],[]⟩ [("_law_script",u)])∧∀ base:Heap,(K w.params).In base→base.Ns mainGlobals mg→FnOk l.prog w (K w.params) mg base CX0 27 fa fd ["_law_script"] (sp_law (K w.params))) :
  W.WalkO q loose XP YP l.row.toRowW d [] (fun f vs=>PySem.call f vs):=
 L2.walk_of (n:=63) (k:=27) (x:="_law_script") (CX:=fun _=>CX0) (sp:=fun w=>sp_law (K w.params)) hn (by decide) hdf ⟨rfl,by decide,by decide⟩ hY F (fun _ _ a ns hl _ hS=>⟨a,ns,rfl,hS,fun _=>rfl⟩) fun _ _ _ _ _ z=>z
end Q15
open PySem PySem.W PyProof.Rows
local macro_rules | `(tactic| walk_at "kk")=>`(tactic| first | k_is | kernel_rfl | rfl | decide +kernel)
set_option maxRecDepth 100000 in
set_option maxHeartbeats 0 in
theorem PySem.Challenge.cw_quiltlaw_k15_grown_trees_laid_holds : PySem.Challenge.rw_quiltlaw_k15_grown_trees_laid.Holds := by
 w_on;o_law;k_head;(case hw=>w_witness2)
 k_fill
 refine Q15.walk (l:=PySem.Challenge.rw_quiltlaw_k15_grown_trees_laid) rfl rfl (fun w h Y=>PySem.W.kIn_of Y) ?F
 case F=>
  intro w mg fa h KX G hmg
  refine' Q15.all_mk KX G hmg ?a1 ?l1 ?c1 ?k1 ?a2 ?l2 ?c2 ?k2 ?a3 ?l3 ?c3 ?k3 ?a4 ?l4 ?c4 ?k4 ?a5 ?l5 ?c5 ?k5 ?a6 ?l6 ?c6 ?k6 ?a7 ?l7 ?c7 ?k7 ?a8 ?l8 ?c8 ?k8 ?a9 ?l9 ?c9 ?k9 ?a10 ?l10 ?c10 ?k10 ?a11 ?l11 ?c11 ?k11 ?a12 ?l12 ?c12 ?k12 ?a13 ?l13 ?c13 ?k13 ?a14 ?l14 ?c14 ?k14 ?a15 ?l15 ?c15 ?k15 ?a16 ?l16 ?c16 ?k16 ?a17 ?l17 ?c17 ?k17 ?a18 ?l18 ?c18 ?k18 ?a19 ?l19 ?c19 ?k19 ?a20 ?l20 ?c20 ?k20 ?a21 ?l21 ?c21 ?k21 ?a22 ?l22 ?c22 ?k22 ?a23 ?l23 ?c23 ?k23 ?a24 ?l24 ?c24 ?k24 ?a25 ?l25 ?c25 ?k25 ?a26 ?l26 ?c26 ?k26 ?a27 ?l27 ?c27 ?k27 ?a28 ?l28 ?c28 ?k28 ?a29 ?l29 ?c29 ?k29 ?a30 ?l30 ?c30 ?k30 ?a31 ?l31 ?c31 ?k31 ?a32 ?l32 ?c32 ?k32 ?a33 ?l33 ?c33 ?k33 ?a34 ?l34 ?c34 ?k34 ?a35 ?l35 ?c35 ?k35 ?xNoRule ?xlNoRule ?xeNoRule ?xgaNoRule ?xghNoRule ?xmbNoRule ?xmoNoRule ?xhaNoRule ?xhn ?xtk ?xNoFit ?xlNoFit ?xeNoFit ?xgaNoFit ?xghNoFit ?xmbNoFit ?xmoNoFit ?xhaNoFit ?xmNoFit_NoFit ?xNoGrammar ?xlNoGrammar ?xeoNoGrammar ?xgaNoGrammar ?xghNoGrammar ?xmbNoGrammar ?xmoNoGrammar ?xhaNoGrammar ?xfiNoGrammar ?xftNoGrammar ?xflNoGrammar ?xfcNoGrammar ?xfkNoGrammar ?xsaNoGrammar ?xstNoGrammar ?xhdNoGrammar ?xobNoGrammar ?xneNoGrammar ?xw_NoGrammar ?xmNoGrammar_NoGrammar ?xNoTree ?xlNoTree ?xeoNoTree ?xgaNoTree ?xghNoTree ?xmbNoTree ?xmoNoTree ?xhaNoTree ?xfiNoTree ?xftNoTree ?xflNoTree ?xfcNoTree ?xfkNoTree ?xsaNoTree ?xstNoTree ?xhdNoTree ?xobNoTree ?xneNoTree ?xw_NoTree ?xmNoTree_NoTree ?xCAPITALS ?xSMALLS ?xLONGEST_NAME ?xRule ?spRule ?rdRule ?fcRule___init__ ?mlRule___init__ ?mcRule___init__ ?mkRule___init__ ?mfRule___init__ ?xCellRule ?pgCellRule ?hdCellRule ?poCellRule ?saCellRule ?haCellRule ?moCellRule ?naCellRule_name ?naCellRule_cost ?naCellRule_part_names ?naCellRule_sign ?miCellRule ?fiCellRule ?mlCellRule___init__ ?mcCellRule___init__ ?mkCellRule___init__ ?mfCellRule___init__ ?kcCellRule ?rCellRule ?sCellRule ?xBesideRule ?pgBesideRule ?hdBesideRule ?poBesideRule ?saBesideRule ?haBesideRule ?moBesideRule ?naBesideRule_name ?naBesideRule_cost ?naBesideRule_part_names ?naBesideRule_one ?naBesideRule_other ?miBesideRule ?fiBesideRule ?mlBesideRule___init__ ?mcBesideRule___init__ ?mkBesideRule___init__ ?mfBesideRule___init__ ?kcBesideRule ?rBesideRule ?sBesideRule ?xAboveRule ?pgAboveRule ?hdAboveRule ?poAboveRule ?saAboveRule ?haAboveRule ?moAboveRule ?naAboveRule_name ?naAboveRule_cost ?naAboveRule_part_names ?naAboveRule_one ?naAboveRule_other ?miAboveRule ?fiAboveRule ?mlAboveRule___init__ ?mcAboveRule___init__ ?mkAboveRule___init__ ?mfAboveRule___init__ ?kcAboveRule ?rAboveRule ?sAboveRule ?xTurnRule ?pgTurnRule ?hdTurnRule ?poTurnRule ?saTurnRule ?haTurnRule ?moTurnRule ?naTurnRule_name ?naTurnRule_cost ?naTurnRule_part_names ?naTurnRule_part ?naTurnRule_turning ?miTurnRule ?fiTurnRule ?mlTurnRule___init__ ?mcTurnRule___init__ ?mkTurnRule___init__ ?mfTurnRule___init__ ?kcTurnRule ?rTurnRule ?sTurnRule ?xMOST_SIGNS ?xMOST_RULES ?xMOST_NAMES ?xMOST ?q01 ?q02 ?q03 ?q10 ?q12 ?q13 ?q20 ?q21 ?q23 ?q30 ?q31 ?q32 ?fmCellRule_parts ?mlRule_parts ?mcRule_parts ?mkRule_parts ?mfRule_parts ?fmCellRule_made ?mlCellRule_made ?mcCellRule_made ?mkCellRule_made ?mfCellRule_made ?fmBesideRule_parts ?fmBesideRule_made ?mlBesideRule_made ?mcBesideRule_made ?mkBesideRule_made ?mfBesideRule_made ?fmAboveRule_parts ?fmAboveRule_made ?mlAboveRule_made ?mcAboveRule_made ?mkAboveRule_made ?mfAboveRule_made ?fmTurnRule_parts ?fmTurnRule_made ?mlTurnRule_made ?mcTurnRule_made ?mkTurnRule_made ?mfTurnRule_made ?xGrammar ?pgGrammar ?hdGrammar ?poGrammar ?saGrammar ?haGrammar ?moGrammar ?naGrammar_signs ?naGrammar_start ?naGrammar_kept ?naGrammar_numbers ?miGrammar ?fiGrammar ?mlGrammar___init__ ?mcGrammar___init__ ?mkGrammar___init__ ?mfGrammar___init__ ?kcGrammar ?fmGrammar_rule ?mlGrammar_rule ?mcGrammar_rule ?mkGrammar_rule ?mfGrammar_rule ?fmGrammar_many ?mlGrammar_many ?mcGrammar_many ?mkGrammar_many ?mfGrammar_many ?z0 ?z1 ?z2 ?z3 ?z4 ?z5 ?z6 ?z7 ?z8 ?z9 ?z10 ?z11 ?z12 ?z13 ?z14 ?z15 ?z16 ?z17 ?z18
  (case a1=>k_is);(case l1=>k_is);(case c1=>k_is);(case k1=>k_is);(case a2=>k_is);(case l2=>k_is);(case c2=>k_is);(case k2=>k_is)
  (case a3=>k_is);(case l3=>k_is);(case c3=>k_is);(case k3=>k_is);(case a4=>k_is);(case l4=>k_is);(case c4=>k_is);(case k4=>k_is)
  (case a5=>k_is);(case l5=>k_is);(case c5=>k_is);(case k5=>k_is);(case a6=>k_is);(case l6=>k_is);(case c6=>k_is);(case k6=>k_is)
  (case a7=>k_is);(case l7=>k_is);(case c7=>k_is);(case k7=>k_is);(case a8=>k_is);(case l8=>k_is);(case c8=>k_is);(case k8=>k_is)
  (case a9=>k_is);(case l9=>k_is);(case c9=>k_is);(case k9=>k_is);(case a10=>k_is);(case l10=>k_is);(case c10=>k_is);(case k10=>k_is)
  (case a11=>k_is);(case l11=>k_is);(case c11=>k_is);(case k11=>k_is);(case a12=>k_is);(case l12=>k_is);(case c12=>k_is);(case k12=>k_is)
  (case a13=>k_is);(case l13=>k_is);(case c13=>k_is);(case k13=>k_is);(case a14=>k_is);(case l14=>k_is);(case c14=>k_is);(case k14=>k_is)
  (case a15=>k_is);(case l15=>k_is);(case c15=>k_is);(case k15=>k_is);(case a16=>k_is);(case l16=>k_is);(case c16=>k_is);(case k16=>k_is)
  (case a17=>k_is);(case l17=>k_is);(case c17=>k_is);(case k17=>k_is);(case a18=>k_is);(case l18=>k_is);(case c18=>k_is);(case k18=>k_is)
  (case a19=>k_is);(case l19=>k_is);(case c19=>k_is);(case k19=>k_is);(case a20=>k_is);(case l20=>k_is);(case c20=>k_is);(case k20=>k_is)
  (case a21=>k_is);(case l21=>k_is);(case c21=>k_is);(case k21=>k_is);(case a22=>k_is);(case l22=>k_is);(case c22=>k_is);(case k22=>k_is)
  (case a23=>k_is);(case l23=>k_is);(case c23=>k_is);(case k23=>k_is);(case a24=>k_is);(case l24=>k_is);(case c24=>k_is);(case k24=>k_is)
  (case a25=>k_is);(case l25=>k_is);(case c25=>k_is);(case k25=>k_is);(case a26=>k_is);(case l26=>k_is);(case c26=>k_is);(case k26=>k_is)
  (case a27=>k_is);(case l27=>k_is);(case c27=>k_is);(case k27=>k_is);(case a28=>k_is);(case l28=>k_is);(case c28=>k_is);(case k28=>k_is)
  (case a29=>k_is);(case l29=>k_is);(case c29=>k_is);(case k29=>k_is);(case a30=>k_is);(case l30=>k_is);(case c30=>k_is);(case k30=>k_is)
  (case a31=>k_is);(case l31=>k_is);(case c31=>k_is);(case k31=>k_is);(case a32=>k_is);(case l32=>k_is);(case c32=>k_is);(case k32=>k_is)
  (case a33=>k_is);(case l33=>k_is);(case c33=>k_is);(case k33=>k_is);(case a34=>k_is);(case l34=>k_is);(case c34=>k_is);(case k34=>k_is)
  (case a35=>k_is);(case l35=>k_is);(case c35=>k_is);(case k35=>k_is);(case xNoRule=>walk_at "kk");(case xlNoRule=>walk_at "kk");(case xeNoRule=>walk_at "kk");(case xgaNoRule=>walk_at "kk")
  (case xghNoRule=>walk_at "kk");(case xmbNoRule=>walk_at "kk");(case xmoNoRule=>walk_at "kk");(case xhaNoRule=>walk_at "kk");(case xhn=>walk_at "kk");(case xtk=>walk_at "kk");(case xNoFit=>walk_at "kk");(case xlNoFit=>walk_at "kk")
  (case xeNoFit=>walk_at "kk");(case xgaNoFit=>walk_at "kk");(case xghNoFit=>walk_at "kk");(case xmbNoFit=>walk_at "kk");(case xmoNoFit=>walk_at "kk");(case xhaNoFit=>walk_at "kk");(case xmNoFit_NoFit=>walk_at "kk");(case xNoGrammar=>walk_at "kk")
  (case xlNoGrammar=>walk_at "kk");(case xeoNoGrammar=>walk_at "kk");(case xgaNoGrammar=>walk_at "kk");(case xghNoGrammar=>walk_at "kk");(case xmbNoGrammar=>walk_at "kk");(case xmoNoGrammar=>walk_at "kk");(case xhaNoGrammar=>walk_at "kk");(case xfiNoGrammar=>walk_at "kk")
  (case xftNoGrammar=>walk_at "kk");(case xflNoGrammar=>walk_at "kk");(case xfcNoGrammar=>walk_at "kk");(case xfkNoGrammar=>walk_at "kk");(case xsaNoGrammar=>walk_at "kk");(case xstNoGrammar=>walk_at "kk");(case xhdNoGrammar=>walk_at "kk");(case xobNoGrammar=>walk_at "kk")
  (case xneNoGrammar=>walk_at "kk");(case xw_NoGrammar=>walk_at "kk");(case xmNoGrammar_NoGrammar=>walk_at "kk");(case xNoTree=>walk_at "kk");(case xlNoTree=>walk_at "kk");(case xeoNoTree=>walk_at "kk");(case xgaNoTree=>walk_at "kk");(case xghNoTree=>walk_at "kk")
  (case xmbNoTree=>walk_at "kk");(case xmoNoTree=>walk_at "kk");(case xhaNoTree=>walk_at "kk");(case xfiNoTree=>walk_at "kk");(case xftNoTree=>walk_at "kk");(case xflNoTree=>walk_at "kk");(case xfcNoTree=>walk_at "kk");(case xfkNoTree=>walk_at "kk")
  (case xsaNoTree=>walk_at "kk");(case xstNoTree=>walk_at "kk");(case xhdNoTree=>walk_at "kk");(case xobNoTree=>walk_at "kk");(case xneNoTree=>walk_at "kk");(case xw_NoTree=>walk_at "kk");(case xmNoTree_NoTree=>walk_at "kk");(case xCAPITALS=>walk_at "kk")
  (case xSMALLS=>walk_at "kk");(case xLONGEST_NAME=>walk_at "kk");(case xRule=>walk_at "kk");(case spRule=>walk_at "kk");(case rdRule=>walk_at "kk");(case fcRule___init__=>walk_at "kk");(case mlRule___init__=>walk_at "kk");(case mcRule___init__=>walk_at "kk")
  (case mkRule___init__=>walk_at "kk");(case mfRule___init__=>walk_at "kk");(case xCellRule=>walk_at "kk");(case pgCellRule=>walk_at "kk");(case hdCellRule=>walk_at "kk");(case poCellRule=>walk_at "kk");(case saCellRule=>walk_at "kk");(case haCellRule=>walk_at "kk")
  (case moCellRule=>walk_at "kk");(case naCellRule_name=>walk_at "kk");(case naCellRule_cost=>walk_at "kk");(case naCellRule_part_names=>walk_at "kk");(case naCellRule_sign=>walk_at "kk");(case miCellRule=>walk_at "kk");(case fiCellRule=>walk_at "kk");(case mlCellRule___init__=>walk_at "kk")
  (case mcCellRule___init__=>walk_at "kk");(case mkCellRule___init__=>walk_at "kk");(case mfCellRule___init__=>walk_at "kk");(case kcCellRule=>walk_at "kk");(case rCellRule=>walk_at "kk");(case sCellRule=>walk_at "kk");(case xBesideRule=>walk_at "kk");(case pgBesideRule=>walk_at "kk")
  (case hdBesideRule=>walk_at "kk");(case poBesideRule=>walk_at "kk");(case saBesideRule=>walk_at "kk");(case haBesideRule=>walk_at "kk");(case moBesideRule=>walk_at "kk");(case naBesideRule_name=>walk_at "kk");(case naBesideRule_cost=>walk_at "kk");(case naBesideRule_part_names=>walk_at "kk")
  (case naBesideRule_one=>walk_at "kk");(case naBesideRule_other=>walk_at "kk");(case miBesideRule=>walk_at "kk");(case fiBesideRule=>walk_at "kk");(case mlBesideRule___init__=>walk_at "kk");(case mcBesideRule___init__=>walk_at "kk");(case mkBesideRule___init__=>walk_at "kk");(case mfBesideRule___init__=>walk_at "kk")
  (case kcBesideRule=>walk_at "kk");(case rBesideRule=>walk_at "kk");(case sBesideRule=>walk_at "kk");(case xAboveRule=>walk_at "kk");(case pgAboveRule=>walk_at "kk");(case hdAboveRule=>walk_at "kk");(case poAboveRule=>walk_at "kk");(case saAboveRule=>walk_at "kk")
  (case haAboveRule=>walk_at "kk");(case moAboveRule=>walk_at "kk");(case naAboveRule_name=>walk_at "kk");(case naAboveRule_cost=>walk_at "kk");(case naAboveRule_part_names=>walk_at "kk");(case naAboveRule_one=>walk_at "kk");(case naAboveRule_other=>walk_at "kk");(case miAboveRule=>walk_at "kk")
  (case fiAboveRule=>walk_at "kk");(case mlAboveRule___init__=>walk_at "kk");(case mcAboveRule___init__=>walk_at "kk");(case mkAboveRule___init__=>walk_at "kk");(case mfAboveRule___init__=>walk_at "kk");(case kcAboveRule=>walk_at "kk");(case rAboveRule=>walk_at "kk");(case sAboveRule=>walk_at "kk")
  (case xTurnRule=>walk_at "kk");(case pgTurnRule=>walk_at "kk");(case hdTurnRule=>walk_at "kk");(case poTurnRule=>walk_at "kk");(case saTurnRule=>walk_at "kk");(case haTurnRule=>walk_at "kk");(case moTurnRule=>walk_at "kk");(case naTurnRule_name=>walk_at "kk")
  (case naTurnRule_cost=>walk_at "kk");(case naTurnRule_part_names=>walk_at "kk");(case naTurnRule_part=>walk_at "kk");(case naTurnRule_turning=>walk_at "kk");(case miTurnRule=>walk_at "kk");(case fiTurnRule=>walk_at "kk");(case mlTurnRule___init__=>walk_at "kk");(case mcTurnRule___init__=>walk_at "kk")
  (case mkTurnRule___init__=>walk_at "kk");(case mfTurnRule___init__=>walk_at "kk");(case kcTurnRule=>walk_at "kk");(case rTurnRule=>walk_at "kk");(case sTurnRule=>walk_at "kk");(case xMOST_SIGNS=>walk_at "kk");(case xMOST_RULES=>walk_at "kk");(case xMOST_NAMES=>walk_at "kk")
  (case xMOST=>walk_at "kk");(case q01=>walk_at "kk");(case q02=>walk_at "kk");(case q03=>walk_at "kk");(case q10=>walk_at "kk");(case q12=>walk_at "kk");(case q13=>walk_at "kk");(case q20=>walk_at "kk")
  (case q21=>walk_at "kk");(case q23=>walk_at "kk");(case q30=>walk_at "kk");(case q31=>walk_at "kk");(case q32=>walk_at "kk");(case fmCellRule_parts=>walk_at "kk");(case mlRule_parts=>walk_at "kk");(case mcRule_parts=>walk_at "kk")
  (case mkRule_parts=>walk_at "kk");(case mfRule_parts=>walk_at "kk");(case fmCellRule_made=>walk_at "kk");(case mlCellRule_made=>walk_at "kk");(case mcCellRule_made=>walk_at "kk");(case mkCellRule_made=>walk_at "kk");(case mfCellRule_made=>walk_at "kk");(case fmBesideRule_parts=>walk_at "kk")
  (case fmBesideRule_made=>walk_at "kk");(case mlBesideRule_made=>walk_at "kk");(case mcBesideRule_made=>walk_at "kk");(case mkBesideRule_made=>walk_at "kk");(case mfBesideRule_made=>walk_at "kk");(case fmAboveRule_parts=>walk_at "kk");(case fmAboveRule_made=>walk_at "kk");(case mlAboveRule_made=>walk_at "kk")
  (case mcAboveRule_made=>walk_at "kk");(case mkAboveRule_made=>walk_at "kk");(case mfAboveRule_made=>walk_at "kk");(case fmTurnRule_parts=>walk_at "kk");(case fmTurnRule_made=>walk_at "kk");(case mlTurnRule_made=>walk_at "kk");(case mcTurnRule_made=>walk_at "kk");(case mkTurnRule_made=>walk_at "kk")
  (case mfTurnRule_made=>walk_at "kk");(case xGrammar=>walk_at "kk");(case pgGrammar=>walk_at "kk");(case hdGrammar=>walk_at "kk");(case poGrammar=>walk_at "kk");(case saGrammar=>walk_at "kk");(case haGrammar=>walk_at "kk");(case moGrammar=>walk_at "kk")
  (case naGrammar_signs=>walk_at "kk");(case naGrammar_start=>walk_at "kk");(case naGrammar_kept=>walk_at "kk");(case naGrammar_numbers=>walk_at "kk");(case miGrammar=>walk_at "kk");(case fiGrammar=>walk_at "kk");(case mlGrammar___init__=>walk_at "kk");(case mcGrammar___init__=>walk_at "kk")
  (case mkGrammar___init__=>walk_at "kk");(case mfGrammar___init__=>walk_at "kk");(case kcGrammar=>walk_at "kk");(case fmGrammar_rule=>walk_at "kk");(case mlGrammar_rule=>walk_at "kk");(case mcGrammar_rule=>walk_at "kk");(case mkGrammar_rule=>walk_at "kk");(case mfGrammar_rule=>walk_at "kk")
  (case fmGrammar_many=>walk_at "kk");(case mlGrammar_many=>walk_at "kk");(case mcGrammar_many=>walk_at "kk");(case mkGrammar_many=>walk_at "kk");(case mfGrammar_many=>walk_at "kk");(case z0=>k_is);(case z1=>k_is);(case z2=>k_is)
  (case z3=>k_is);(case z4=>k_is);(case z5=>k_is);(case z6=>k_is);(case z7=>k_is);(case z8=>k_is);(case z9=>k_is);(case z10=>k_is)
  (case z11=>k_is);(case z12=>k_is);(case z13=>k_is);(case z14=>k_is);(case z15=>k_is);(case z16=>k_is);(case z17=>k_is);(case z18=>k_is)
