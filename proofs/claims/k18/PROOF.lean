import PyProof.Rows.All
import Wide.All
import OpenK.AllK
import Wide.FinOn
import Lean
import PyProof.EqAt
import PyProof.EqKinds
import PyProof.TupleCall
import PyProof.CollectIter
import PyProof.JoinWalk
import PyProof.StrOps
import PyProof.ListOps
import PyProof.StrLawsJoin
import KE.KRevIter
import PyProof.StrLawsFirst
import PyProof.Rows.StrNews2
import PyProof.StrLawsTight
import PyProof.StrLawsChain
import KE.KIntText
import KE.IntTextLaws
import PyProof.ListStr
import KE.KDictLaws
import KE.KDictList
import PyProof.Rows.SetFrom
import PyProof.FitsReplace
import KE.KEqDict
import PySem.Challenge.RW_quiltlaw_k18_words_that_write_no_tree
namespace PySem.W.Fast
def tw216691261437837408:=0
def tw2492077292307541088:=0
def tw13594272110737324128:=0
def tw395520616471997568:=0
def tw2811088679517788416:=0
def tw16400588849351682368:=0
def tw16757518263119834432:=0
def tw11720240673347102112:=0
def tw12085204549494731168:=0
def tw8952703593287572928:=0
def tw11617187820282606048:=0
def tw1939779924398028288:=0
def tw16061746276330766848:=0
def tw224174877232562720:=0
def tw12574144292026360384:=0
def tw16930575208061057632:=0
def tw17349931756691734112:=0
def tw9324156718374959744:=0
def tw12623184366638894816:=0
def tw8648144018925208288:=0
def tw17942539890143360832:=0
def tw6962276826134955872:=0
def tw1494780145190131552:=0
def tw1656389705433560960:=0
def tw1658877454149494688:=0
def tw14116059325826476960:=0
def tw2725090127615880160:=0
def tw11938016942656081921:=0
def tw5008294160164833345:=0
def tw17520390454097205345:=0
def tw3658926674285571233:=0
def tw15503755229977971905:=0
def tw1033563551748098337:=0
def tw3379469599137050913:=0
def tw16287908211820587393:=0
def tw17654407461105490433:=0
def tw7433785290195225121:=0
def tw65172111205190177:=0
def tw1699131083222360641:=0
def tw9479477577116559969:=0
def tw7729653504594692833:=0
def tw6619282659476785889:=0
def tw486752862552888065:=0
def tw12735162896159489825:=0
def tw13198461710192360321:=0
def tw2553124077941904289:=0
def tw2696940461040497601:=0
def tw1457655205028599777:=0
def tw3837416008765277186:=0
def tw13325231455083967490:=0
def tw16333014054001078274:=0
def tw15883072972103626850:=0
def tw13159541858556105858:=0
def tw4366267654944358530:=0
def tw1140740051810694306:=0
def tw2929318174749903010:=0
def tw16475835466658462018:=0
def tw6783484941475020098:=0
def tw6190714379536159074:=0
def tw11814046485959336290:=0
def tw10487578703315792226:=0
def tw3050749973511687618:=0
def tw10970902159519901122:=0
def tw10102661125908123106:=0
def tw17399114468043481570:=0
def tw13228580044059253346:=0
def tw13756393256707875458:=0
def tw12299892423233875618:=0
def tw2820724705466272450:=0
def tw11032933618000816930:=0
def tw7786853059213943618:=0
def tw11406127632208040770:=0
def tw11732363339110637442:=0
def tw11609379732232898466:=0
def tw4512366349081355202:=0
def tw12701758979484226530:=0
def tw10983371600097440738:=0
def tw9841744764962963491:=0
def tw2982059972823756963:=0
def tw6402069292401874083:=0
def tw11848572025735602339:=0
def tw17045907259207583971:=0
def tw453806587861882147:=0
def tw5201099266323846435:=0
def tw4186249834717804867:=0
def tw8163936482782688579:=0
def tw7387175076334690659:=0
def tw4477561085911376259:=0
def tw14548830442078816707:=0
def tw11153584726056995363:=0
def tw5172513302996234979:=0
def tw14537859192325140291:=0
def tw17734043556750458723:=0
def tw621901359684180931:=0
def tw14357330072437630947:=0
def tw9240631542957484068:=0
def tw877224674350168100:=0
def tw8330268337014874180:=0
def tw14736899058413253828:=0
def tw13906712291898883300:=0
def tw15377844273892239716:=0
def tw7752990164325256644:=0
def tw5472702534415203940:=0
def tw12787896985395104356:=0
def tw16702895497790334596:=0
def tw17758719828895314564:=0
def tw13525047227967306532:=0
def tw777739222038269796:=0
def tw14975754256483858340:=0
def tw17088236815040396228:=0
def tw10718700650326033380:=0
def tw12021388357460579333:=0
def tw14616449099389427877:=0
def tw7997759008835464357:=0
def tw6672950969868797221:=0
def tw3238814733727892805:=0
def tw4702939769019349317:=0
def tw5528579479449744741:=0
def tw5227523354423787941:=0
def tw3609550300169536933:=0
def tw15684540284092416517:=0
def tw11372271439614203397:=0
def tw16404461704157847077:=0
def tw293659367116408421:=0
def tw11588028936068105861:=0
def tw7540129314467847813:=0
def tw909856663687534277:=0
def tw6415555238680701733:=0
def tw15155958642489920325:=0
def tw18159368268166381445:=0
def tw3477036943114316838:=0
def tw8046136637438680166:=0
def tw7984178520170526886:=0
def tw1273093733753050310:=0
def tw16219760384803002630:=0
def tw10636592292105247014:=0
def tw12324984182330691878:=0
def tw7753790204908461414:=0
def tw12629861657180249478:=0
def tw13540675416628765094:=0
def tw10617533965740331462:=0
def tw6557189842600778182:=0
def tw12114758361085050342:=0
def tw9413414993979902470:=0
def tw1792520824120890950:=0
def tw3559188978843327142:=0
def tw17480038020031325926:=0
def tw10262394906467913446:=0
def tw10313592362089873158:=0
def tw8805308846370497350:=0
def tw16166931410199826278:=0
def tw2743042182665887654:=0
def tw10755934246560861126:=0
def tw15590296934950635462:=0
def tw2147512003048084519:=0
def tw16358347154251849831:=0
def tw12466206695773368423:=0
def tw10517327912704409799:=0
def tw3728427783268135111:=0
def tw223611730980238567:=0
def tw918706846363926823:=0
def tw4506666704836530503:=0
def tw969306306532785479:=0
def tw5984357976847865191:=0
def tw14414228233795577191:=0
def tw17938535070171788743:=0
def tw10444552873350290951:=0
def tw2764091218101585447:=0
def tw5615255337169435239:=0
def tw16138027090628431623:=0
def tw8336521678852257639:=0
def tw9812671098111467431:=0
def tw1432119525826585543:=0
def tw15187624681089820615:=0
def tw16375269306799573991:=0
def tw15547627834628154376:=0
def tw15610978736985973800:=0
def tw8411754215997100072:=0
def tw14086485833118621768:=0
def tw905329996339130472:=0
def tw9194290792153680008:=0
def tw8711286565761954952:=0
def tw8979405028171173000:=0
def tw10531325365508373640:=0
def tw7486781301665036648:=0
def tw189118232858963304:=0
def tw3099114245866663304:=0
def tw13975062370787027368:=0
def tw7602989714035785160:=0
def tw12789384999927927336:=0
def tw5770434826992917064:=0
def tw14434429193082499656:=0
def tw3188947500385008200:=0
def tw13567623036954998376:=0
def tw12258320238881975944:=0
def tw9929995077542623912:=0
def tw5894073561687175912:=0
def tw10972008454628020008:=0
def tw10424839945992923944:=0
def tw7534436061069316968:=0
def tw17465180251364842344:=0
def tw3377868174725085096:=0
def tw15664258813506719720:=0
def tw8596968490791312360:=0
def tw7310424079177070568:=0
def tw11353811990427085833:=0
def tw6910355982936080425:=0
def tw3798012010114330665:=0
def tw4922361357659048009:=0
def tw11479920776435904681:=0
def tw10230324605013875881:=0
def tw5361876153966079337:=0
def tw10982421054402933097:=0
def tw1139808889945791945:=0
def tw276602953210396169:=0
def tw7109061063370523145:=0
def tw13647835084482375209:=0
def tw4060957734003732137:=0
def tw15092783400449965737:=0
def tw3468497522867011273:=0
def tw1954618369079723881:=0
def tw10970024935370344329:=0
def tw3469908722855085033:=0
def tw3234818709345374185:=0
def tw3965977524230470666:=0
def tw15773555665615058954:=0
def tw16144466391730138154:=0
def tw13826320252957444138:=0
def tw5888330219988668522:=0
def tw8485722939905835274:=0
def tw14604382107769911562:=0
def tw7128876650448673066:=0
def tw2560065424725489994:=0
def tw11564763527104735594:=0
def tw1277872092709549418:=0
def tw16868958251724958250:=0
def tw16860335273291734634:=0
def tw11603341934460592810:=0
def tw9546452785014249258:=0
def tw1976748039156698954:=0
def tw8110642050621715306:=0
def tw154405921042767754:=0
def tw3120924755231586411:=0
def tw8232422186807277739:=0
def tw2916642752187892907:=0
def tw8906619429750703371:=0
def tw4413586385433164043:=0
def tw5071219219957198123:=0
def tw3326222198114316619:=0
def tw11957926808296863051:=0
def tw11489848466058351979:=0
def tw14405695782088192395:=0
def tw15413885098494228875:=0
def tw9343136212474403211:=0
def tw13980591507149528523:=0
def tw10380030217442139787:=0
def tw5526336536363225803:=0
def tw7260361526700956363:=0
def tw11724326833161786155:=0
def tw10266135808135493451:=0
def tw6029371330290305899:=0
def tw12357441447354865547:=0
def tw2727982963425237899:=0
def tw6864075592825103243:=0
def tw586231396174397580:=0
def tw9773624811757617356:=0
def tw16124182454316567788:=0
def tw16365116570744272140:=0
def tw5706816465035169068:=0
def tw17128583524514726220:=0
def tw9371613759538104652:=0
def tw14608807123533246828:=0
def tw8157416623693438380:=0
def tw17960069218828637644:=0
def tw16041040474098588108:=0
def tw17034998189000740332:=0
def tw2315487683746551276:=0
def tw7101041003186715180:=0
def tw11890653824713226860:=0
def tw9030208351337573036:=0
def tw9550889972731923180:=0
def tw13568114368586514252:=0
def tw12226259461744066412:=0
def tw10216681712915786636:=0
def tw856723023342661516:=0
def tw8013467480444299212:=0
def tw16159664760371889261:=0
def tw6368431120033048685:=0
def tw16409982453846341741:=0
def tw3337504875075270797:=0
def tw6623503332689868013:=0
def tw15986960865025964301:=0
def tw17405056056523667757:=0
def tw3048314433596789069:=0
def tw9851848229125691725:=0
def tw2190315370104615405:=0
def tw5374038192716922381:=0
def tw17106073810126043693:=0
def tw6740600539009499821:=0
def tw18378597471373612717:=0
def tw10764562158934029005:=0
def tw10558888794095691501:=0
def tw1307756904980929293:=0
def tw2190993779052316461:=0
def tw3093685521771706221:=0
def tw4935787360093720461:=0
def tw14052144290492584877:=0
def tw6804768518652905389:=0
def tw16965946206122020878:=0
def tw6174327417829926958:=0
def tw4868360264766468174:=0
def tw11360683261657682030:=0
def tw10508909401442890894:=0
def tw7488531823952727214:=0
def tw4251071666061888718:=0
def tw13804139644337751310:=0
def tw2619045020078302478:=0
def tw11974602483688508846:=0
def tw15185177162299872686:=0
def tw4589396278836185550:=0
def tw14791070298587585006:=0
def tw16147258682250533422:=0
def tw12453789302079999630:=0
def tw15870332138038730414:=0
def tw14936612505120358094:=0
def tw8624437928569990926:=0
def tw10742853164764855054:=0
def tw10628893767890833262:=0
def tw986522425834636174:=0
def tw787148832472115086:=0
def tw12335044183725501390:=0
def tw3179507530652647439:=0
def tw1974907626643576911:=0
def tw12424509037321729167:=0
def tw8057432525871811759:=0
def tw8400582920463611055:=0
def tw7297238383038850319:=0
def tw12776233584526224687:=0
def tw12726020524983286063:=0
def tw15349618352378667439:=0
def tw7436198752883549679:=0
def tw217580366165386767:=0
def tw4486975454426543631:=0
def tw16780131896752808495:=0
def tw15648644541828994607:=0
def tw15695842544054052431:=0
def tw11440970980485074511:=0
def tw5389316404944220783:=0
def tw4892439909114595983:=0
def tw14484830167079728815:=0
def tw14557690604222544655:=0
def tw9518254879332608815:=0
def tw9417205230757088111:=0
def tw8957596990882021295:=0
def tw6996520765779416015:=0
def tw3626143929884055535:=0
def tw9605435161213703184:=0
def tw7231074147399318544:=0
def tw1314701879616589872:=0
def tw7781311643660060784:=0
def tw3744897088928086128:=0
def tw17668174163753237616:=0
def tw7803844278813181136:=0
def tw15587582121778730288:=0
def tw3057570634751459696:=0
def tw11172254403748033904:=0
def tw13709444943929775568:=0
def tw9620006297855668688:=0
def tw16885467524016304592:=0
def tw13844015126294141424:=0
def tw8096718156128067056:=0
def tw16651086698105360880:=0
def tw6554337810493065744:=0
def tw12532703042099018352:=0
def tw11931467963049172624:=0
def tw1503537573865955056:=0
def tw3289671252578478928:=0
def tw17239734501797892976:=0
def tw15451280415276783536:=0
def tw2592807228795391952:=0
def tw5972975352505650128:=0
def tw6543977475470467056:=0
def tw15134282565089083409:=0
def tw12088874702939755569:=0
def tw1490937776066023473:=0
def tw5323767544129407057:=0
def tw2412775221386827921:=0
def tw7387858730114375825:=0
def tw9040716035290592401:=0
def tw4717141989093165265:=0
def tw372881650998614289:=0
def tw12880523340523415953:=0
def tw14520255347081159121:=0
def tw13341040844977227281:=0
def tw5262371808098433617:=0
def tw14414626649448613457:=0
def tw9907433159536388721:=0
def tw4685714985408666225:=0
def tw16357964321483963025:=0
def tw12047218918174821041:=0
def tw10683044183197410001:=0
def tw4821009148463921937:=0
def tw3605178083592991537:=0
def tw17840633732227540817:=0
def tw17251449963173320561:=0
def tw10795924260290614161:=0
def tw3129368280061525010:=0
def tw3672544638421903410:=0
def tw5487779322323021874:=0
def tw6661248582753951826:=0
def tw15661422054452790386:=0
def tw14123479888364549266:=0
def tw4398401089961758898:=0
def tw13813534567113099570:=0
def tw17778243979312312722:=0
def tw9760186161284646322:=0
def tw6188550790469245362:=0
def tw8800140844690983346:=0
def tw9126205655257872850:=0
def tw4234326123875371698:=0
def tw10922916479179989682:=0
def tw15319700403792600754:=0
def tw8644528954418080498:=0
def tw11641791762413103858:=0
def tw9470348269071838962:=0
def tw16073771322237232914:=0
def tw8489070316557513490:=0
def tw9842876866126727954:=0
def tw12539405888690050834:=0
def tw17731791619255798578:=0
def tw15356920673187729234:=0
def tw6169817508282661746:=0
def tw16468176343084549010:=0
def tw13520854542377358290:=0
def tw15780470948443703347:=0
def tw7234326019406476403:=0
def tw17918451996170309875:=0
def tw12532578740927355283:=0
def tw914370091362279891:=0
def tw11333391890315771347:=0
def tw14867797484560587251:=0
def tw11326013479348257299:=0
def tw8683498626080935507:=0
def tw6945067465235057299:=0
def tw9338444715735636659:=0
def tw14361015127714487987:=0
def tw5056246991138715379:=0
def tw14395159427516267315:=0
def tw1933595623760736083:=0
def tw6785258042840045395:=0
def tw2644610106056543091:=0
def tw10761767833690362771:=0
def tw12968747313620664243:=0
def tw8173719188607713203:=0
def tw9633382960411827220:=0
def tw15015514836708057108:=0
def tw2441770521901813812:=0
def tw17171677898253609108:=0
def tw16727476572516298932:=0
def tw2119819855613218004:=0
def tw7907278471277028596:=0
def tw3671875250523238644:=0
def tw6872872790028954900:=0
def tw5168122712203651348:=0
def tw1795513108928034100:=0
def tw17284450969868196244:=0
def tw15573635314381385140:=0
def tw12409190992767371700:=0
def tw7680927912321894868:=0
def tw3869288057992671732:=0
def tw14894827119066299988:=0
def tw1856100081018211956:=0
def tw8604533269918956148:=0
def tw3191080632639444660:=0
def tw9198003720758674132:=0
def tw16804897624025516756:=0
def tw15089876872833389364:=0
def tw3320234148291187540:=0
def tw3435793239049438068:=0
def tw5566808503641318292:=0
def tw4507308596360103860:=0
def tw17347605248801664053:=0
def tw13736282522511488053:=0
def tw11362863820339180629:=0
def tw990159343541021813:=0
def tw7337227401256792181:=0
def tw14692642860219956373:=0
def tw727788627878253749:=0
def tw29238103347686613:=0
def tw2043019787355688181:=0
def tw16987060822122081557:=0
def tw6538714605049163029:=0
def tw1225778424056181109:=0
def tw2945599737304481141:=0
def tw15715324765431441813:=0
def tw11519337944642007477:=0
def tw5200087742939299253:=0
def tw9442763948365317653:=0
def tw10813831591048017429:=0
def tw1124841587101998645:=0
def tw1962622278239044277:=0
def tw2623780431634434805:=0
def tw2256028992849114933:=0
def tw14835602017904767829:=0
def tw366066030766714805:=0
def tw14490057782800817109:=0
def tw15496849810854455318:=0
def tw17269514449757698070:=0
def tw4392614839308620854:=0
def tw12290948299958753334:=0
def tw15169511374121250902:=0
def tw108549491744711798:=0
def tw6441568677499298966:=0
def tw372178333965092022:=0
def tw1776821514109475094:=0
def tw9348459483744566550:=0
def tw10841083742864801046:=0
def tw12629464126009996694:=0
def tw17787395178653730294:=0
def tw13741866950201616918:=0
def tw18308494305250989622:=0
def tw7588801057001691734:=0
def tw12835309847144946294:=0
def tw10972472760005016182:=0
def tw12440112170404775606:=0
def tw3318582337317093078:=0
def tw13068792346918776534:=0
def tw1737424468541330198:=0
def tw15572896145873689366:=0
def tw353213302177066838:=0
def tw4723008674122872758:=0
def tw8755100566999067574:=0
def tw4866529694926867414:=0
def tw11387945911846419543:=0
def tw7771248621364663415:=0
def tw17474427171089366199:=0
def tw4302781829267933367:=0
def tw17458214053128461527:=0
def tw5446497016164801751:=0
def tw13517471587488097495:=0
def tw10804816551879178455:=0
def tw10663659500536860919:=0
def tw17350769354537715991:=0
def tw1503548527066235159:=0
def tw14137697525197359415:=0
def tw4027944832433839511:=0
def tw8738249371139851735:=0
def tw3230407134031149559:=0
def tw18095221312874640887:=0
def tw12489031061570542071:=0
def tw10631057653948335639:=0
def tw14994148207472109079:=0
def tw2451968042171461175:=0
def tw10630970279629728375:=0
def tw16798445974578030199:=0
def tw16985953709586526871:=0
def tw8503517476204278487:=0
def tw9816472525351397111:=0
def tw11543659618220852983:=0
def tw4113147262117731063:=0
def tw4273468991482387191:=0
def tw14885749807283517303:=0
def tw1081217505160740727:=0
def tw7764468210430307191:=0
def tw18178562846805719927:=0
def tw12781980900460616599:=0
def tw634484458410143639:=0
def tw18231104531120919511:=0
def tw4691094855329655799:=0
def tw16957501850453214392:=0
def tw9498411724462341304:=0
def tw17110239565869788376:=0
def tw9701357372838267096:=0
def tw1057579227976709496:=0
def tw14884302672979085816:=0
def tw4735486712266768088:=0
def tw3639370697806844632:=0
def tw9336934718626015992:=0
def tw17544613856843939736:=0
def tw13919002572189708184:=0
def tw9570709700590951416:=0
def tw5108830100138532921:=0
def tw9946607904115269721:=0
def tw5243561561659769017:=0
def tw4967307620615328953:=0
def tw14809924277803432153:=0
def tw3026036651224579353:=0
def tw13297741941309099321:=0
def tw6374637190925085049:=0
def tw1391266471096127993:=0
def tw11479127676296249849:=0
def tw14981892849401674265:=0
def tw8363942713324080825:=0
def tw432387737505574617:=0
def tw9239359896962328345:=0
def tw9638089385310298041:=0
def tw2102721789997197241:=0
def tw13930155108020520921:=0
def tw2519172429776397305:=0
def tw15194020204443827193:=0
def tw3163282687155570746:=0
def tw13910193779253118042:=0
def tw2395928821422658650:=0
def tw3563790790045762810:=0
def tw12384098168175349018:=0
def tw14548581600371745114:=0
def tw4242498823966035322:=0
def tw11359183590856506746:=0
def tw18146798952306243994:=0
def tw1707759728740046298:=0
def tw8339799630772296154:=0
def tw3076148580993392218:=0
def tw484640589970731610:=0
def tw16592013828684544634:=0
def tw9838977636868902522:=0
def tw16530244531240654554:=0
def tw2100640463911506650:=0
def tw7767162858929566458:=0
def tw8380455780798616410:=0
def tw2008801882875161498:=0
def tw16937632173827850202:=0
def tw10107777580790915034:=0
def tw13354078284827268123:=0
def tw1935349925545385083:=0
def tw15729630503148512379:=0
def tw7743739375328382267:=0
def tw13831674073153785147:=0
def tw8128920520851663195:=0
def tw15609008774327673275:=0
def tw7265180361736541691:=0
def tw13626135587760791099:=0
def tw18092504896954502779:=0
def tw3904743227921250939:=0
def tw15725269514407893627:=0
def tw14323142422469407419:=0
def tw5885655303684077339:=0
def tw8529926895552137083:=0
def tw11233693156000057243:=0
def tw4726354992507491323:=0
def tw11227176491132188667:=0
def tw17900964674275771452:=0
def tw9143298493515268220:=0
def tw2919533166144752764:=0
def tw9766410892585637020:=0
def tw12708848724152849596:=0
def tw15190525414476782812:=0
def tw14834910488565358844:=0
def tw16609056795567829308:=0
def tw11089681065096507772:=0
def tw13620526396409708956:=0
def tw5843035625027809692:=0
def tw4177267144758463036:=0
def tw11437531494986644060:=0
def tw4175631265421121180:=0
def tw12672778112056466140:=0
def tw936320436443683548:=0
def tw2666536238930736892:=0
def tw3182183068825844508:=0
def tw8735726178313153404:=0
def tw5631878059151493020:=0
def tw4515663787362297756:=0
def tw10234693891480431612:=0
def tw4110119789442829341:=0
def tw5312955566246862877:=0
def tw15623032846694794269:=0
def tw2900546901372182717:=0
def tw12240585819750560989:=0
def tw6398962625550558461:=0
def tw5489359422257643805:=0
def tw16512755824494539037:=0
def tw12854208776337853789:=0
def tw17423727026691506589:=0
def tw11085807023427732925:=0
def tw10418512214993048029:=0
def tw12974586326085660157:=0
def tw1987472946469274205:=0
def tw16156789353603337885:=0
def tw10919664548355310461:=0
def tw17756760940921925533:=0
def tw11046038163890883549:=0
def tw16923426082699707389:=0
def tw10902614931964955645:=0
def tw12051799420117806174:=0
def tw8254124580286328926:=0
def tw6463620891121448030:=0
def tw5192187679141139646:=0
def tw1578516944062031038:=0
def tw136905299132306654:=0
def tw2464165251776311646:=0
def tw15406203953415272862:=0
def tw14770320906767230430:=0
def tw13717479215393762814:=0
def tw11741807310711343678:=0
def tw183047388027191902:=0
def tw7025035173904918142:=0
def tw6366320082122086046:=0
def tw14409718011589463934:=0
def tw8823591208907951038:=0
def tw15072033711199150014:=0
def tw16949806986486225886:=0
def tw1733465542315748318:=0
def tw15930879376709465054:=0
def tw18020578711829261310:=0
def tw16964189466162886654:=0
def tw5081532809101720607:=0
def tw14974301672809738303:=0
def tw8205745563672762431:=0
def tw6696352767008085119:=0
def tw2926593467563587743:=0
def tw381045261527063807:=0
def tw1519128691054828799:=0
def tw11980020982755344703:=0
def tw11032209490982322495:=0
def tw18018696389063612767:=0
def tw9975032950573482335:=0
def tw16950995461092497759:=0
def tw6420076153075819903:=0
def tw12958170620064638431:=0
def tw17450957269544506879:=0
def tw15921304568959538687:=0
def tw9465353259616859903:=0
def tw11450715821604278111:=0
def tw10702792049331555199:=0
def tw3441001991963586495:=0
def tw12719087862537160671:=0
def tw633744327054473183:=0
end PySem.W.Fast
set_option Elab.async false
set_option linter.all false
set_option maxRecDepth 100000
namespace L2
open PySem PySem.Spec PyProof.Rows
abbrev Key:=Sum Int Str
def keyIs:Key→Value→Bool
 | .inl k,v=>Value.isInt k v
 | .inr x,v=>Value.isStrOf x v
def keyH (w:World):Key→Int
 | .inl k=>hashInt k
 | .inr x=>hashStr w x
theorem keyIs_shape:∀ {k:Key} {v:Value},keyIs k v=true→(∃ i t,k=Sum.inl i∧v=Value.int i t)∨(∃ x t,k=Sum.inr x∧v=Value.str x t)
 | .inl i,v,h=>by
  obtain ⟨t,e⟩:=Value.isInt_shape (k:=i) (v:=v) h
  exact .inl ⟨i,t,rfl,e⟩
 | .inr x,v,h=>by
  obtain ⟨t,e⟩:=Value.isStrOf_shape (x:=x) (v:=v) h
  exact .inr ⟨x,t,rfl,e⟩
theorem keyIs_int (i:Int) (t:Tok):keyIs (.inl i) (.int i t)=true:=by simp [keyIs,Value.isInt]
theorem keyIs_str (x:Str) (t:Tok):keyIs (.inr x) (.str x t)=true:=by simp [keyIs,Value.isStrOf]
theorem key_ll (a b:Int):decide ((Sum.inl a:Key)=Sum.inl b)=(a == b):=by
 by_cases e:a=b
 ·subst e;simp
 ·have h:¬ (Sum.inl a:Key)=Sum.inl b:=fun q=>e (Sum.inl.inj q)
  rw [decide_eq_false h]
  exact (beq_eq_false_iff_ne.mpr e).symm
theorem key_rr (a b:Str):decide ((Sum.inr a:Key)=Sum.inr b)=decide (a=b):=by
 by_cases e:a=b
 ·subst e;simp
 ·have h:¬ (Sum.inr a:Key)=Sum.inr b:=fun q=>e (Sum.inr.inj q)
  rw [decide_eq_false h,decide_eq_false e]
theorem key_lr (a:Int) (b:Str):decide ((Sum.inl a:Key)=Sum.inr b)=false:=decide_eq_false (fun q=>nomatch q)
theorem key_rl (a:Str) (b:Int):decide ((Sum.inr a:Key)=Sum.inl b)=false:=decide_eq_false (fun q=>nomatch q)
def mixKind (prog:Program) (w:World):PySem.KeyKind prog w Key where
 is:=keyIs
 hash:=keyH w
 inj:=fun v a b ha hb=>by
  rcases keyIs_shape ha with ⟨i,t,rfl,rfl⟩ | ⟨x,t,rfl,rfl⟩
  ·rcases keyIs_shape hb with ⟨j,u,rfl,e⟩ | ⟨y,u,rfl,e⟩
   ·injection e with e1 _;rw [e1]
   ·exact nomatch e
  ·rcases keyIs_shape hb with ⟨j,u,rfl,e⟩ | ⟨y,u,rfl,e⟩
   ·exact nomatch e
   ·injection e with e1 _;rw [e1]
 byValue:=fun k v h=>by
  rcases keyIs_shape h with ⟨i,t,rfl,rfl⟩ | ⟨x,t,rfl,rfl⟩ <;> rfl
 pyHash:=fun hv h=>by
  rcases keyIs_shape hv with ⟨i,t,rfl,rfl⟩ | ⟨x,t,rfl,rfl⟩
  ·exact wpAny_pyHash_int h
  ·exact wpAny_pyHash_str h
 eqBool:=fun hu hv h=>by
  rcases keyIs_shape hu with ⟨i,t,rfl,rfl⟩ | ⟨x,t,rfl,rfl⟩
  ·rcases keyIs_shape hv with ⟨j,u,rfl,rfl⟩ | ⟨y,u,rfl,rfl⟩
   ·rw [key_ll] at h;exact wpAny_eqBool_int h
   ·rw [key_lr] at h;exact SeqAt.EqAt.int_str i t y u _ _ _ _ h
  ·rcases keyIs_shape hv with ⟨j,u,rfl,rfl⟩ | ⟨y,u,rfl,rfl⟩
   ·rw [key_rl] at h;exact SeqAt.EqAt.str_int x t j u _ _ _ _ h
   ·rw [key_rr] at h;exact wpAny_eqBool_str h
 «strs»:=fun k x t v h=>by
  rcases keyIs_shape h with ⟨i,u,rfl,e⟩ | ⟨y,u,rfl,e⟩
  ·exact nomatch e
  ·injection e with e1 _
   subst e1
   cases v <;> rfl
theorem mixKind_int (prog:Program) (w:World) (i:Int) (t:Tok):(mixKind prog w).is (.inl i) (.int i t)=true:=keyIs_int i t
theorem mixKind_str (prog:Program) (w:World) (x:Str) (t:Tok):(mixKind prog w).is (.inr x) (.str x t)=true:=keyIs_str x t
end L2
namespace L2
open PySem PySem.Spec PyProof.Rows
inductive V where
 | non | bl (b:Bool) | int (i:Int) | str (x:Str) | byt (b:Array UInt8) | flt (b:UInt64) | ref (a:Addr) | ty (n:String)
 deriving DecidableEq
def RelV:V→Value→Prop
 | .non,u=>u=Value.none
 | .bl b,u=>u=Value.bool b
 | .int i,u=>∃ t,u=Value.int i t
 | .str x,u=>∃ t,u=Value.str x t
 | .byt b,u=>∃ t,u=Value.bytes b t
 | .flt b,u=>∃ t,u=Value.float b t
 | .ref a,u=>u=Value.ref a
 | .ty n,u=>u=Value.type n
abbrev Vals:List V→List Value→Prop:=Paired RelV
theorem Vals.length {xs:List V} {us:List Value} (r:Vals xs us):xs.length=us.length:=Paired.length r
theorem Vals.get:∀ {xs:List V} {us:List Value} {i:Nat} {x:V},Vals xs us→xs[i]?=some x→∃ u,us[i]?=some u∧RelV x u
 | _,_,_,_,.nil,e=>by simp at e
 | _,_,0,_,.cons r _,e=>by simp at e;subst e;exact ⟨_,rfl,r⟩
 | _,_,i + 1,x,.cons _ t,e=>by
  obtain ⟨u,h1,h2⟩:=Vals.get (i:=i) (x:=x) t (by simpa using e)
  exact ⟨u,by simpa using h1,h2⟩
theorem Vals.set {x:V} {u:Value} (r:RelV x u):∀ {xs:List V} {us:List Value} (i:Nat),Vals xs us→Vals (xs.set i x) (us.set i u)
 | _,_,_,.nil=>.nil
 | _,_,0,.cons _ t=>.cons r t
 | _,_,i + 1,.cons q t=>.cons q (Vals.set r i t)
theorem Vals.append:∀ {xs ys:List V} {us ws:List Value},Vals xs us→Vals ys ws→Vals (xs ++ ys) (us ++ ws)
 | _,_,_,_,.nil,s=>s
 | _,_,_,_,.cons r t,s=>.cons r (Vals.append t s)
theorem Vals.take:∀ {xs:List V} {us:List Value} (n:Nat),Vals xs us→Vals (xs.take n) (us.take n)
 | _,_,0,_=>.nil
 | _,_,_ + 1,.nil=>.nil
 | _,_,n + 1,.cons r t=>.cons r (Vals.take n t)
theorem Vals.drop:∀ {xs:List V} {us:List Value} (n:Nat),Vals xs us→Vals (xs.drop n) (us.drop n)
 | _,_,0,r=>r
 | _,_,_ + 1,.nil=>.nil
 | _,_,n + 1,.cons _ t=>Vals.drop n t
theorem Vals.none_of:∀ {xs:List V} {us:List Value} {i:Nat},Vals xs us→xs[i]?=none→us[i]?=none:=fun {xs us i} r e=>by
 have h1:=r.length
 have h2:xs.length≤i:=List.getElem?_eq_none_iff.mp e
 exact List.getElem?_eq_none_iff.mpr (by omega)
def RelO:Option V→Option Value→Prop
 | some v,some u=>RelV v u
 | none,none=>True
 | _,_=>False
def KV {κ:Type}:List (κ × V)→List (κ × Value)→Prop:=Paired fun (p:κ × V) (q:κ × Value)=>p.1=q.1∧RelV p.2 q.2
def kV:Key→V
 | .inl i=>.int i
 | .inr x=>.str x
inductive HO where
  | lst (xs:List V)
  | tup (xs:List V)
  | dK (kvs:List (Key × V)) | dT (kvs:List (List Key × V))
  | set (S:Int→Bool) (n:Nat)
  | ins (C dx:Addr) (fs:List (Str × V))
  | own (x:Addr)
  | xd (fs:List (Str × V))
  | met (f x:Addr)
  | rng (lo hi:Int)
  | frz (o:Obj) (u:HO)
  | tbl (ps:Array Value)
  | ext (φ:Heap→Prop)
abbrev Hp:=Addr→Option HO
def upd (H:Hp) (a:Addr) (o:HO):Hp:=fun b=>if b=a then some o else H b
theorem upd_same {H:Hp} {a:Addr} {o:HO}:upd H a o a=some o:=by unfold upd;rw [if_pos rfl]
theorem upd_ne {H:Hp} {a b:Addr} {o:HO} (h:b≠a):upd H a o b=H b:=by unfold upd;rw [if_neg h]
theorem upd_upd {H:Hp} {a:Addr} {o u:HO}:upd (upd H a o) a u=upd H a u:=by
 funext b;unfold upd;split <;> rfl
theorem ne_of {H:Hp} {a b:Addr} {o u:HO} (h:H a=some o) (h':H b=some u) (d:o≠u):a≠b:=by
 intro e;subst e;rw [h] at h';exact d (Option.some.inj h')
theorem ne_of_none {H:Hp} {a b:Addr} {o:HO} (h:H a=some o) (h':H b=none):a≠b:=by
 intro e;subst e;rw [h] at h';cases h'
section
variable (P:Program) (w:World)
def ObjOk (H:Hp) (h:Heap) (a:Addr):HO→Prop
 | .lst xs=>xs.length≤sizeLine∧∃ (its:List Value) (n:Nat),Vals xs its∧h.get? a=some { cls:=.type "list",data:=.seq its.toArray n }
 | .tup xs=>xs.length≤sizeLine∧∃ its:List Value,Vals xs its∧IsTup h a its.toArray
 | .dK kvs=>kvs.length≤sizeLine∧(a == sysModules)=false∧∃ vs,KV kvs vs∧h.DictOf (mixKind P w) a vs
 | .dT kvs=>kvs.length≤sizeLine∧(a == sysModules)=false∧∃ xs:List (List Key × Addr × Value),
   Paired (fun (p:List Key × V) (q:List Key × Addr × Value)=>p.1=q.1∧H q.2.1=some (.tup (p.1.map kV))∧RelV p.2 q.2.2) kvs xs ∧
   ∃ o es ep,h.get? a=some o∧o.ExactDict∧o.data=.dict es ep∧es.toList=xs.map (entryOfKey (tupleKind (mixKind P w)))∧(xs.map (·.1)).Nodup
 | .set S n=>h.SetOf (intKind P w) a S n
 | .ins C dx fs=>H dx=some (.own a)∧fs.length≤1000∧dx≠a∧h.get? a=some (PySem.W.instObj C dx) ∧
   ∃ mA,h.Ns1 dx mA∧(∀ f,RelO (fs.lookup f) (mA f))∧PySem.Within mA (fs.map (·.1))
 | .own _=>∃ o,h.get? a=some o
 | .xd fs=>∃ mA,h.Ns1 a mA∧∀ f,RelO (fs.lookup f) (mA f)
 | .rng lo hi=>∃ t u v,h.get? a=some { cls:=.type "range",data:=.fields #[.int lo t,.int hi u,.int 1 v] }
 | .frz o u=>h.get? a=some o∧ObjOk H h a u
 | .tbl ps=>h.get? a=some { cls:=.none,data:=.fields ps }
 | .met f x=>h.get? a=some (PySem.W.methodObj (.ref f) (.ref x))
 | .ext φ=>φ h∧(∃ o,h.get? a=some o)∧∀ h1 h2:Heap,φ h1→(∀ o,h1.get? a=some o→h2.get? a=some o)→φ h2
def HOk (H:Hp) (h:Heap):Prop:=∀ a o,H a=some o→ObjOk P w H h a o
end
section
variable {P:Program} {w:World} {H H':Hp} {h h':Heap} {a:Addr} {o:HO}
theorem ObjOk.lt (x:ObjOk P w H h a o):a < h.objs.size:=by
 cases o with
 | lst xs=>obtain ⟨_,_,_,_,e⟩:=x;exact Heap.lt_size e
 | tup xs=>obtain ⟨_,_,_,p⟩:=x;exact p.lt
 | dK kvs=>obtain ⟨_,_,_,_,o,_,_,e,_⟩:=x;exact Heap.lt_size e
 | dT kvs=>obtain ⟨_,_,_,_,o,_,_,e,_⟩:=x;exact Heap.lt_size e
 | set S n=>obtain ⟨o,_,_,_,e,_⟩:=x;exact Heap.lt_size e
 | ins C dx fs=>obtain ⟨_,_,_,e,_⟩:=x;exact Heap.lt_size e
 | own y=>obtain ⟨_,e⟩:=x;exact Heap.lt_size e
 | xd fs=>obtain ⟨_,⟨_,_,_,e,_⟩,_⟩:=x;exact Heap.lt_size e
 | rng lo hi=>obtain ⟨_,_,_,e⟩:=x;exact Heap.lt_size e
 | frz ob u=>obtain ⟨e,_⟩:=x;exact Heap.lt_size e
 | tbl ps=>exact Heap.lt_size (show h.get? a=some _ from x)
 | met f y=>exact Heap.lt_size (show h.get? a=some _ from x)
 | ext φ=>obtain ⟨_,⟨_,e⟩,_⟩:=x;exact Heap.lt_size e
theorem Paired.mapP {α β:Type} {F G:α→β→Prop}:∀ {l₁:List α} {l₂:List β},Paired F l₁ l₂→(∀ a b,F a b→G a b)→Paired G l₁ l₂
 | _,_,.nil,_=>.nil
 | _,_,.cons r t,f=>.cons (f _ _ r) (Paired.mapP t f)
theorem ObjOk.stay (x:ObjOk P w H h a o) (k:∀ b u,(b=a∨H b=some (.own a))→h.get? b=some u→h'.get? b=some u)
  (ho:∀ b,H b=some (.own a)→H' b=some (.own a)) (ht:∀ b xs,H b=some (.tup xs)→H' b=some (.tup xs)):ObjOk P w H' h' a o:=by
 induction o with
 | lst xs=>obtain ⟨z,its,n,r,e⟩:=x;exact ⟨z,its,n,r,k _ _ (.inl rfl) e⟩
 | tup xs=>obtain ⟨z,its,r,ob,e,c⟩:=x;exact ⟨z,its,r,ob,k _ _ (.inl rfl) e,c⟩
 | dK kvs=>obtain ⟨z,y,vs,r,ob,es,ep,e,c⟩:=x;exact ⟨z,y,vs,r,ob,es,ep,k _ _ (.inl rfl) e,c⟩
 | dT kvs=>
  obtain ⟨z,y,xs,r,ob,es,ep,e,c⟩:=x
  exact ⟨z,y,xs,Paired.mapP r fun p q z=>⟨z.1,ht _ _ z.2.1,z.2.2⟩,ob,es,ep,k _ _ (.inl rfl) e,c⟩
 | set S n=>obtain ⟨ob,es,ep,t,e,c⟩:=x;exact ⟨ob,es,ep,t,k _ _ (.inl rfl) e,c⟩
 | ins C dx fs=>
  obtain ⟨d,z,ne,e,mA,⟨od,es,ep,e2,c⟩,r⟩:=x
  exact ⟨ho _ d,z,ne,k _ _ (.inl rfl) e,mA,⟨od,es,ep,k _ _ (.inr d) e2,c⟩,r⟩
 | own y=>obtain ⟨ob,e⟩:=x;exact ⟨ob,k _ _ (.inl rfl) e⟩
 | xd fs=>obtain ⟨mA,⟨od,es,ep,e,c⟩,r⟩:=x;exact ⟨mA,⟨od,es,ep,k _ _ (.inl rfl) e,c⟩,r⟩
 | rng lo hi=>obtain ⟨t,u,v,e⟩:=x;exact ⟨t,u,v,k _ _ (.inl rfl) e⟩
 | frz ob u ih=>obtain ⟨e,q⟩:=x;exact ⟨k _ _ (.inl rfl) e,ih q⟩
 | tbl ps=>
  have e:h.get? a=some { cls:=.none,data:=.fields ps }:=x
  show h'.get? a=some { cls:=.none,data:=.fields ps }
  exact k a _ (.inl rfl) e
 | met f y=>
  have e:h.get? a=some (PySem.W.methodObj (.ref f) (.ref y)):=x
  show h'.get? a=some (PySem.W.methodObj (.ref f) (.ref y))
  exact k a _ (.inl rfl) e
 | ext φ=>obtain ⟨p,⟨o,e⟩,st⟩:=x;exact ⟨st _ _ p fun o q=>k _ _ (.inl rfl) q,⟨o,k _ _ (.inl rfl) e⟩,st⟩
theorem HOk.lt (x:HOk P w H h) (e:H a=some o):a < h.objs.size:=(x a o e).lt
theorem HOk.fresh (x:HOk P w H h) (e:h.objs.size≤a):H a=none:=by
 cases q:H a with
 | none=>rfl
 | some u=>exact absurd (Nat.lt_of_lt_of_le (x.lt q) e) (Nat.lt_irrefl _)
theorem HOk.kept (x:HOk P w H h) (k:∀ b u,h.get? b=some u→h'.get? b=some u):HOk P w H h':=fun a o e=>
 (x a o e).stay (fun b u _ q=>k b u q) (fun _ q=>q) fun _ _ q=>q
theorem HOk.laid (x:HOk P w H h) (k:∀ b u,h.get? b=some u→h'.get? b=some u) (hp:h.objs.size≤a) (new:ObjOk P w (upd H a o) h' a o):HOk P w (upd H a o) h':=fun b u e=>by
 have hn:=x.fresh hp
 by_cases hb:b=a
 ·subst hb;rw [upd_same] at e;cases e;exact new
 ·rw [upd_ne hb] at e
  exact (x b u e).stay (fun c v _ q=>k c v q) (fun c q=>by rw [upd_ne (ne_of_none q hn)];exact q) fun c xs q=>by rw [upd_ne (ne_of_none q hn)];exact q
end
def Rd (H:Hp) (a:Addr) (u:HO):Prop:=H a=some u∨∃ o,H a=some (.frz o u)
theorem Rd.of {H:Hp} {a:Addr} {u:HO} (h:H a=some u):Rd H a u:=.inl h
theorem Rd.ok {P:Program} {w:World} {H:Hp} {h:Heap} {a:Addr} {u:HO} (r:Rd H a u) (x:HOk P w H h):ObjOk P w H h a u:=by
 rcases r with r | ⟨o,r⟩
 ·exact x a u r
 ·obtain ⟨_,q⟩:=x a _ r
  exact q
def Mut:Option HO→Prop
 | some (.lst _)=>True
 | some (.dK _)=>True
 | some (.dT _)=>True
 | some (.set _ _)=>True
 | some (.ins _ _ _)=>True
 | some (.ext _)=>True
 | _=>False
section
variable {P:Program} {w:World} {H:Hp} {h h':Heap} {x e:Addr} {o':HO}
theorem HOk.write (ok:HOk P w H h) (mu:Mut (H x)) (he:e=x∨H e=some (.own x)) (k:∀ b u,b≠e→h.get? b=some u→h'.get? b=some u) (heo:∃ u,h'.get? e=some u)
  (new:ObjOk P w (upd H x o') h' x o'):HOk P w (upd H x o') h':=fun b u q=>by
 have nown:∀ c y,H c=some (.own y)→c≠x:=fun c y r z=>by subst z;rw [r] at mu;exact mu
 have ntup:∀ c xs,H c=some (.tup xs)→c≠x:=fun c xs r z=>by subst z;rw [r] at mu;exact mu
 by_cases hb:b=x
 ·subst hb;rw [upd_same] at q;cases q;exact new
 ·rw [upd_ne hb] at q
  by_cases hbe:b=e
  ·have q':H b=some (.own x):=by
    rcases he with z | z
    ·exact absurd (hbe.trans z) hb
    ·rw [hbe];exact z
   rw [q] at q';cases q'
   obtain ⟨v,hv⟩:=heo
   exact ⟨v,by rw [hbe];exact hv⟩
  ·refine (ok b u q).stay (fun c v hc r=>k c v ?_ r) (fun c r=>by rw [upd_ne (nown c b r)];exact r) fun c xs r=>by rw [upd_ne (ntup c xs r)];exact r
   rcases hc with rfl | hc
   ·exact hbe
   ·rintro rfl
    rcases he with z | z
    ·exact nown c b hc z
    ·rw [hc] at z;cases z;exact hb rfl
end
structure Un (fs ex:List Addr) (H H':Hp) (h h':Heap):Prop where
 keep:∀ b o,h.get? b=some o→H b=none→b ∉ fs→b ∉ ex→h'.get? b=some o
 slot:∀ b o,h.get? b=some o→H b=none→b∈fs→b ∉ ex→∃ sl,h'.get? b=some { o with slots:=sl }
 free:∀ b o,h.get? b=some o→H b=none→b ∉ ex→H' b=none
 there:∀ b o,h.get? b=some o→b ∉ ex→∃ o',h'.get? b=some o'
 tups:∀ b xs,H b=some (.tup xs)→H' b=some (.tup xs)
 frzs:∀ b o u,H b=some (.frz o u)→H' b=some (.frz o u)
 tbls:∀ b ps,H b=some (.tbl ps)→∃ more,H' b=some (.tbl (ps ++ more))
section
variable {fs fs' ex ex':List Addr} {H H1 H2:Hp} {h h1 h2 h':Heap} {a x e:Addr} {o:HO}
theorem Un.any (u:Un fs ex H H1 h h1) {b:Addr} {ob:Obj} (q:h.get? b=some ob) (n:H b=none) (hx:b ∉ ex):∃ sl,h1.get? b=some { ob with slots:=sl }:=by
 by_cases hb:b∈fs
 ·exact u.slot b ob q n hb hx
 ·exact ⟨ob.slots,u.keep b ob q n hb hx⟩
theorem Un.trans (a:Un fs ex H H1 h h1) (b:Un fs ex H1 H2 h1 h2):Un fs ex H H2 h h2 where
 keep:=fun c ob q n hc hx=>b.keep c ob (a.keep c ob q n hc hx) (a.free c ob q n hx) hc hx
 slot:=fun c ob q n hc hx=>by
  obtain ⟨sl,e1⟩:=a.slot c ob q n hc hx
  obtain ⟨sl',e2⟩:=b.slot c _ e1 (a.free c ob q n hx) hc hx
  exact ⟨sl',e2⟩
 free:=fun c ob q n hx=>by
  obtain ⟨o',e1⟩:=a.there c ob q hx
  exact b.free c o' e1 (a.free c ob q n hx) hx
 there:=fun c ob q hx=>by
  obtain ⟨o',e1⟩:=a.there c ob q hx
  exact b.there c o' e1 hx
 tups:=fun c xs q=>b.tups c xs (a.tups c xs q)
 frzs:=fun c ob xs q=>b.frzs c ob xs (a.frzs c ob xs q)
 tbls:=fun c ps q=>by
  obtain ⟨m1,e1⟩:=a.tbls c ps q
  obtain ⟨m2,e2⟩:=b.tbls c _ e1
  exact ⟨m1 ++ m2,by rw [e2,Array.append_assoc]⟩
theorem Un.kept (k:∀ b u,h.get? b=some u→h'.get? b=some u):Un fs ex H H h h':=
 ⟨fun b ob q _ _ _=>k b ob q,fun b ob q _ _ _=>⟨ob.slots,k b ob q⟩,fun _ _ _ n _=>n,fun b ob q _=>⟨ob,k b ob q⟩,fun _ _ q=>q,fun _ _ _ q=>q,fun _ ps q=>⟨#[],by rw [q];simp⟩⟩
theorem Un.refl:Un fs ex H H h h:=Un.kept fun _ _ q=>q
theorem Un.laid (k:∀ b u,h.get? b=some u→h'.get? b=some u) (hp:h.objs.size≤a) (hn:H a=none):Un fs ex H (upd H a o) h h' where
 keep:=fun b u q _ _ _=>k b u q
 slot:=fun b u q _ _ _=>⟨u.slots,k b u q⟩
 free:=fun b u q n _=>by rw [upd_ne (Nat.ne_of_lt (Nat.lt_of_lt_of_le (Heap.lt_size q) hp))];exact n
 there:=fun b u q _=>⟨u,k b u q⟩
 tups:=fun b xs q=>by rw [upd_ne (ne_of_none q hn)];exact q
 frzs:=fun b u xs q=>by rw [upd_ne (ne_of_none q hn)];exact q
 tbls:=fun b ps q=>⟨#[],by rw [upd_ne (ne_of_none q hn),q];simp⟩
theorem Un.write (mu:Mut (H x)) (he:e=x∨H e=some (.own x)) (k:∀ b u,b≠e→h.get? b=some u→h'.get? b=some u) (heo:∃ u,h'.get? e=some u):Un fs ex H (upd H x o) h h':=by
 have hx:∀ b,H b=none→b≠x:=fun b n z=>by subst z;rw [n] at mu;exact mu
 have hb:∀ b,H b=none→b≠e:=fun b n z=>by
  subst z
  rcases he with r | r
  ·exact hx b n r
  ·rw [n] at r;cases r
 have hm:∀ b u,H b=some u→¬ Mut (some u)→b≠x:=fun b u q nm z=>by subst z;rw [q] at mu;exact nm mu
 refine ⟨fun b u q n _ _=>k b u (hb b n) q,fun b u q n _ _=>⟨u.slots,k b u (hb b n) q⟩,fun b u q n _=>by rw [upd_ne (hx b n)];exact n,fun b u q _=>?_,
  fun b xs q=>by rw [upd_ne (hm b _ q fun z=>z)];exact q,fun b u xs q=>by rw [upd_ne (hm b _ q fun z=>z)];exact q,fun b ps q=>⟨#[],by rw [upd_ne (hm b _ q fun z=>z),q];simp⟩⟩
 by_cases hbe:b=e
 ·subst hbe;exact heo
 ·exact ⟨u,k b u hbe q⟩
theorem Un.mono (u:Un fs ex H H1 h h1) (hs:∀ b∈fs,b∈fs') (hx:∀ b∈ex,b∈ex'):Un fs' ex' H H1 h h1:=
 ⟨fun b ob q n hb he=>u.keep b ob q n (fun z=>hb (hs b z)) fun z=>he (hx b z),fun _ _ q n _ he=>u.any q n fun z=>he (hx _ z),fun b ob q n he=>u.free b ob q n fun z=>he (hx b z),fun b ob q he=>u.there b ob q fun z=>he (hx b z),u.tups,u.frzs,u.tbls⟩
end
def trk (h:Heap) (H:Hp):List Addr:=(List.range h.objs.size).filter fun a=>(H a).isSome
def hidT (h:Heap) (H:Hp):Heap:=PySem.W.hideAll h (trk h H)
theorem hidT_size (h:Heap) (H:Hp):(hidT h H).objs.size=h.objs.size:=PySem.W.hideAll_size _ _
theorem hidT_get {h:Heap} {H:Hp} {b:Addr} {o:Obj} (e:h.get? b=some o) (n:H b=none):(hidT h H).get? b=some o:=
 PySem.W.hideAll_get _ e fun hm=>by
  have q:(H b).isSome=true:=(List.mem_filter.mp hm).2
  rw [n] at q;simp at q
theorem of_hidT {h:Heap} {H:Hp} {b:Addr} {o:Obj} (e:(hidT h H).get? b=some o):h.get? b=some o∧H b=none:=by
 have e':h.get? b=some o:=PySem.W.of_hideAll (trk h H) e
 refine ⟨e',?_⟩
 cases q:H b with
 | none=>rfl
 | some x=>
  have hm:b∈trk h H:=List.mem_filter.mpr ⟨List.mem_range.mpr (Heap.lt_size e'),by simp [q]⟩
  have z:(hidT h H).get? b=none:=PySem.W.hideAll_none (trk h H) hm
  rw [z] at e;cases e
def allNews (g h:Heap) (L:Addr):List (Addr × Obj):=(List.range h.objs.size).filterMap fun a=>if a=L∨(g.get? a).isSome=true then none else (h.get? a).map fun o=>(a,o)
def rest (g h:Heap) (L d:Addr):List (Addr × Obj):=(allNews g h L).filter fun p=>decide (p.1≠d)
end L2
namespace L2
open PySem PySem.Spec PyProof.Rows
structure Mod (K:PySem.W.Frag) (mg:Str→Option Value) (base:Heap):Prop where
 kin:K.In base
 glob:base.Ns mainGlobals mg
 blt:∃ mb,base.Ns builtinsNs mb∧∀ x:Str,x≠"__name__"→mb x=bootBuiltins x
 nolimit:base.NoLimit
structure Cx where
 prog:Program
 w:World
 K:PySem.W.Frag
 mg:Str→Option Value
 base:Heap
 A:Around
 N:List Str
 s₀:Shared
 H₀:Hp
 env:Env
 outer:List Env
 stack:List Env
 ex:List Addr
 fn:Str→Bool
 calm:Bool
 pn:List (Addr × Obj)
 xe:Value→Shared→Prop
def frs (l:List Env):List Addr:=l.filterMap (·.frame)
abbrev Cx.fs (X:Cx):List Addr:=frs X.outer
def Vis (sc:Scope) (x:Str):Prop:=sc.names.lookup x=some .local∨sc.names.lookup x=some .cell∨sc.names.lookup x=some .free
def Loc (sc:Scope) (x:Str):Prop:=sc.names.lookup x=some .local∨sc.names.lookup x=some .cell
def Look (env:Env) (h:Heap) (m:Str→Option Value) (x:Str) (u:Value):Prop:=
 (env.kindOf x=some .local∧m x=some u)∨((env.kindOf x=some .cell∨env.kindOf x=some .free)∧∃ c,env.cells.lookup x=some c∧h.IsCell c (some u))
structure Cx.Ok (X:Cx):Prop where
 mod:Mod X.K X.mg X.base
 kind:X.env.scope.kind=.function
 glob:X.env.globals=mainGlobals
 blt:X.env.builtins=builtinsNs
 above:X.s₀.heap.objs.size≤X.env.locals
 inj:∀ x y c,X.env.cells.lookup x=some c→X.env.cells.lookup y=some c→x=y
 has:∀ x,(X.env.kindOf x=some .cell∨X.env.kindOf x=some .free)→∃ c,X.env.cells.lookup x=some c
 cab:∀ x c,X.fn x=true→X.env.cells.lookup x=some c→X.s₀.heap.objs.size≤c
 hd:X.calm=true→X.A.handled=none
 frames:X.A.frames=some X.stack
 stk:X.stack=X.outer∨(X.stack=X.env :: X.outer∧X.env.frame=some X.env.locals)
 exf:∀ b∈X.ex,b≠X.env.locals∧∀ x c,X.env.cells.lookup x=some c→c≠b
 bs:∀ b o,X.base.get? b=some o→X.s₀.heap.get? b=some o∧X.H₀ b=none
 bsz:X.base.objs.size≤X.s₀.heap.objs.size
 noex:∀ b o,X.base.get? b=some o→b ∉ X.ex
 exfs:∀ b∈X.ex,b ∉ X.fs
 funs:X.s₀.heap.FunFrames X.base X.outer
 frf:∀ b∈X.fs,X.H₀ b=none
structure Inv (X:Cx) (pins:List (Addr × Obj)) (σ:List (Option V)) (H:Hp) (s:Shared):Prop where
 ok:X.Ok
 os:s.os=X.s₀.os
 bare:AllBare s.gens
 base:Un X.fs X.ex X.H₀ H X.s₀.heap s.heap
 loc:∃ m,s.heap.Ns X.env.locals m∧∀ (i:Nat) (x:Str) (v:V),X.N[i]?=some x→σ[i]?=some (some v)→Vis X.env.scope x→∃ u,RelV v u∧Look X.env s.heap m x u
 cell:∀ x c,X.env.cells.lookup x=some c→∃ v,s.heap.IsCell c v
 free:H X.env.locals=none
 freeC:∀ x c,X.env.cells.lookup x=some c→H c=none
 pin:∀ p∈X.pn ++ pins,s.heap.get? p.1=some p.2∧H p.1=none∧p.1≠X.env.locals∧p.1 ∉ X.fs∧∀ v,p.2.data≠.cell v
 hok:HOk X.prog X.w H s.heap
 len:σ.length=X.N.length
section
variable {X:Cx} {pins:List (Addr × Obj)} {σ:List (Option V)} {H H':Hp} {s:Shared} {h':Heap}
theorem Cx.Ok.nofr (ok:X.Ok) {b:Addr} {o:Obj} (e:X.base.get? b=some o):b ∉ X.fs:=fun hb=>by
 have:=(ok.funs.mem hb).1
 rw [e] at this;cases this
theorem Inv.bs (I:Inv X pins σ H s):∀ b o,X.base.get? b=some o→s.heap.get? b=some o∧H b=none:=fun b o e=>
 ⟨I.base.keep b o (I.ok.bs b o e).1 (I.ok.bs b o e).2 (I.ok.nofr e) (I.ok.noex b o e),I.base.free b o (I.ok.bs b o e).1 (I.ok.bs b o e).2 (I.ok.noex b o e)⟩
theorem Inv.bk (I:Inv X pins σ H s):∀ b o,X.base.get? b=some o→s.heap.get? b=some o:=fun b o e=>(I.bs b o e).1
theorem Inv.mod (I:Inv X pins σ H s):Mod X.K X.mg X.base:=I.ok.mod
theorem Inv.kIn (I:Inv X pins σ H s):X.K.In s.heap:=I.ok.mod.kin.keeps I.bk
theorem Inv.nolimit (I:Inv X pins σ H s):s.heap.NoLimit:=I.ok.mod.nolimit.keeps I.bk
theorem Inv.fr (I:Inv X pins σ H s):∃ m,Fr X.base X.env.locals s.heap m:=
 let ⟨m,hn,_⟩:=I.loc
 ⟨m,hn,I.bk,Nat.le_trans I.ok.bsz I.ok.above⟩
theorem Inv.lt (I:Inv X pins σ H s):X.env.locals < s.heap.objs.size:=let ⟨_,hn,_⟩:=I.loc;hn.lt
theorem Inv.sz (I:Inv X pins σ H s):X.s₀.heap.objs.size≤s.heap.objs.size:=Nat.le_trans I.ok.above (Nat.le_of_lt I.lt)
theorem Inv.nofs (I:Inv X pins σ H s) {a:Addr} (h:s.heap.objs.size≤a):a ∉ X.fs:=fun hb=>by
 obtain ⟨_,o,ho,_⟩:=I.ok.funs.mem hb
 exact absurd (Nat.lt_of_lt_of_le (Heap.lt_size ho) (Nat.le_trans I.sz h)) (Nat.lt_irrefl _)
theorem Inv.cne (I:Inv X pins σ H s):∀ x c,X.env.cells.lookup x=some c→c≠X.env.locals:=fun x c e z=>by
 obtain ⟨v,o,ho,hd⟩:=I.cell x c e
 obtain ⟨m,⟨o',es,ep,ho',hd',_⟩,_⟩:=I.loc
 rw [z,ho'] at ho;cases ho;rw [hd'] at hd;cases hd
theorem Inv.funs (I:Inv X pins σ H s):s.heap.FunFrames X.base X.outer:=by
 have all:∀ (l:List Env),(∀ b∈frs l,b∈X.fs)→X.s₀.heap.FunFrames X.base l→s.heap.FunFrames X.base l:=by
  intro l
  induction l with
  | nil=>intro _ _;trivial
  | cons env r ih=>
   intro hs hl
   obtain ⟨hk,⟨L,o,hf,hn,ho,hd⟩,hr⟩:=hl
   have hL:L∈X.fs:=hs L (by unfold frs;rw [List.filterMap_cons,hf];exact List.mem_cons_self)
   obtain ⟨sl,e⟩:=I.base.slot L o ho (I.ok.frf L hL) hL fun z=>I.ok.exfs L z hL
   exact ⟨hk,⟨L,_,hf,hn,e,hd⟩,ih (fun b hb=>hs b (by unfold frs;rw [List.filterMap_cons,hf];exact List.mem_cons_of_mem _ hb)) hr⟩
 exact all X.outer (fun _ hb=>hb) I.ok.funs
theorem Inv.stack (I:Inv X pins σ H s):s.heap.FunFrames X.base X.stack:=by
 rcases I.ok.stk with e | ⟨e,hf⟩
 ·rw [e];exact I.funs
 ·rw [e]
  obtain ⟨m,hn,_⟩:=I.loc
  refine .cons (by rw [I.ok.kind];decide) hf hn ?_ I.funs
  exact Heap.get?_none_of_le (Nat.le_trans I.ok.bsz I.ok.above)
theorem Inv.stkSub (I:Inv X pins σ H s):∀ b∈frs X.stack,b∈X.env.locals :: X.fs:=fun b hb=>by
 rcases I.ok.stk with e | ⟨e,hf⟩
 ·rw [e] at hb;exact List.mem_cons_of_mem _ hb
 ·rw [e] at hb
  unfold frs at hb
  rw [List.filterMap_cons,hf] at hb
  exact hb
theorem Inv.stkFree (I:Inv X pins σ H s):∀ b∈frs X.stack,H b=none:=fun b hb=>by
 rcases List.mem_cons.mp (I.stkSub b hb) with e | hb
 ·rw [e];exact I.free
 ·obtain ⟨_,o,ho,_⟩:=I.ok.funs.mem hb
  exact I.base.free b o ho (I.ok.frf b hb) fun z=>I.ok.exfs b z hb
theorem Inv.step {g':Array GenState} {t':Nat} {d':Drawn} {ch:List Addr} (I:Inv X pins σ H s)
  (hch:∀ b∈ch,(b∈X.ex∨X.s₀.heap.objs.size≤b)∧b≠X.env.locals∧(∀ x c,X.env.cells.lookup x=some c→c≠b)∧∀ p∈X.pn ++ pins,p.1≠b)
  (keep:∀ b o,b≠X.env.locals→b ∉ X.fs→b ∉ ch→s.heap.get? b=some o→H b=none→h'.get? b=some o)
  (slot:∀ b o,b≠X.env.locals→b∈X.fs→b ∉ ch→s.heap.get? b=some o→H b=none→∃ sl,h'.get? b=some { o with slots:=sl }) (free:∀ b o,b ∉ ch→s.heap.get? b=some o→H b=none→H' b=none)
  (there:∀ b o,b ∉ ch→s.heap.get? b=some o→∃ o',h'.get? b=some o')
  (tups:∀ b xs,H b=some (.tup xs)→H' b=some (.tup xs)) (frzs:∀ b o u,H b=some (.frz o u)→H' b=some (.frz o u)) (tbls:∀ b ps,H b=some (.tbl ps)→∃ more,H' b=some (.tbl (ps ++ more)))
  (ns:∀ m,s.heap.Ns X.env.locals m→h'.Ns X.env.locals m) (hok:HOk X.prog X.w H' h') (hg:AllBare g') :
  Inv X pins σ H' { s with heap:=h',gens:=g',drawn:=d',toks:=t' }:=by
 have neL:∀ b o,X.s₀.heap.get? b=some o→b≠X.env.locals:=fun b o e=>Nat.ne_of_lt (Nat.lt_of_lt_of_le (Heap.lt_size e) I.ok.above)
 have neC:∀ b o,X.s₀.heap.get? b=some o→b ∉ X.ex→b ∉ ch:=fun b o e hx hb=>by
  rcases (hch b hb).1 with z | z
  ·exact hx z
  ·exact absurd (Nat.lt_of_lt_of_le (Heap.lt_size e) z) (Nat.lt_irrefl _)
 have cellK:∀ x c,X.env.cells.lookup x=some c→∀ v,s.heap.IsCell c v→h'.IsCell c v:=fun x c e v ⟨o,ho,hd⟩=>by
  have nch:c ∉ ch:=fun z=>(hch c z).2.2.1 x c e rfl
  by_cases hc:c∈X.fs
  ·obtain ⟨sl,q⟩:=slot c o (I.cne x c e) hc nch ho (I.freeC x c e)
   exact ⟨_,q,hd⟩
  ·exact ⟨o,keep c o (I.cne x c e) hc nch ho (I.freeC x c e),hd⟩
 refine ⟨I.ok,I.os,hg,⟨fun b o e n hb hx=>?_,fun b o e n hb hx=>?_,fun b o e n hx=>?_,fun b o e hx=>?_,fun b xs e=>tups b xs (I.base.tups b xs e),fun b o xs e=>frzs b o xs (I.base.frzs b o xs e),fun b ps e=>?_⟩,?_,fun x c e=>?_,?_,fun x c e=>?_,fun p hp=>?_,hok,I.len⟩
 ·exact keep b o (neL b o e) hb (neC b o e hx) (I.base.keep b o e n hb hx) (I.base.free b o e n hx)
 ·obtain ⟨sl,e1⟩:=I.base.slot b o e n hb hx
  obtain ⟨sl',e2⟩:=slot b _ (neL b o e) hb (neC b o e hx) e1 (I.base.free b o e n hx)
  exact ⟨sl',e2⟩
 ·obtain ⟨o',e1⟩:=I.base.there b o e hx
  exact free b o' (neC b o e hx) e1 (I.base.free b o e n hx)
 ·obtain ⟨o',e1⟩:=I.base.there b o e hx
  exact there b o' (neC b o e hx) e1
 ·obtain ⟨m1,e1⟩:=I.base.tbls b ps e
  obtain ⟨m2,e2⟩:=tbls b _ e1
  exact ⟨m1 ++ m2,by rw [e2,Array.append_assoc]⟩
 ·obtain ⟨m,hn,hl⟩:=I.loc
  refine ⟨m,ns m hn,fun i x v e1 e2 e3=>?_⟩
  obtain ⟨u,r,l⟩:=hl i x v e1 e2 e3
  refine ⟨u,r,?_⟩
  rcases l with l | ⟨k,c,e,z⟩
  ·exact .inl l
  ·exact .inr ⟨k,c,e,cellK x c e _ z⟩
 ·obtain ⟨v,z⟩:=I.cell x c e
  exact ⟨v,cellK x c e v z⟩
 ·obtain ⟨m,⟨o,_,_,ho,_⟩,_⟩:=I.loc
  exact free _ o (fun z=>(hch _ z).2.1 rfl) ho I.free
 ·obtain ⟨v,o,ho,hd⟩:=I.cell x c e
  exact free c o (fun z=>(hch c z).2.2.1 x c e rfl) ho (I.freeC x c e)
 ·obtain ⟨e,n,ne,nf,d⟩:=I.pin p hp
  have nch:p.1 ∉ ch:=fun z=>(hch p.1 z).2.2.2 p hp rfl
  exact ⟨keep p.1 p.2 ne nf nch e n,free p.1 p.2 nch e n,ne,nf,d⟩
theorem Inv.un {t':Nat} (I:Inv X pins σ H s) (u:Un X.fs [] H H' s.heap h') (hok:HOk X.prog X.w H' h'):Inv X pins σ H' { s with heap:=h',toks:=t' }:=by
 obtain ⟨m,⟨o,es,ep,ho,r⟩,_⟩:=id I.loc
 obtain ⟨sl,hL⟩:=u.any ho I.free (by simp)
 exact I.step (g':=s.gens) (d':=s.drawn) (ch:=[]) (fun _ z=>nomatch z) (fun b o _ hb _ e n=>u.keep b o e n hb (by simp)) (fun b o _ hb _ e n=>u.slot b o e n hb (by simp)) (fun b o _ e n=>u.free b o e n (by simp)) (fun b o _ e=>u.there b o e (by simp)) u.tups u.frzs u.tbls (fun m' hm=>by
  obtain ⟨o',es',ep',ho',r'⟩:=hm
  rw [ho] at ho';cases ho'
  exact ⟨_,es',ep',hL,r'⟩) hok I.bare
theorem Inv.call {g':Array GenState} {t':Nat} {d':Drawn} {ch:List Addr} (I:Inv X pins σ H s) (u:Un (frs X.stack) ch H H' s.heap h') (hok:HOk X.prog X.w H' h') (hg:AllBare g')
  (hch:∀ b∈ch,(b∈X.ex∨X.s₀.heap.objs.size≤b)∧b≠X.env.locals∧(∀ x c,X.env.cells.lookup x=some c→c≠b)∧∀ p∈X.pn ++ pins,p.1≠b) :
  Inv X pins σ H' { s with heap:=h',gens:=g',drawn:=d',toks:=t' }:=by
 obtain ⟨m,⟨o,es,ep,ho,r⟩,_⟩:=id I.loc
 obtain ⟨sl,hL⟩:=u.any ho I.free fun z=>(hch _ z).2.1 rfl
 exact I.step (ch:=ch) hch (fun b o hL hb hc e n=>u.keep b o e n (fun z=>(List.mem_cons.mp (I.stkSub b z)).elim hL hb) hc) (fun b o _ _ hc e n=>u.any e n hc) (fun b o hc e n=>u.free b o e n hc) (fun b o hc e=>u.there b o e hc) u.tups u.frzs u.tbls (fun m' hm=>by
  obtain ⟨o',es',ep',ho',r'⟩:=hm
  rw [ho] at ho';cases ho'
  exact ⟨_,es',ep',hL,r'⟩) hok hg
theorem Inv.turned {t':Nat} {it:Addr} (I:Inv X pins σ H s) (k:∀ b o,b≠it→s.heap.get? b=some o→h'.get? b=some o) (hn:H it=none) (hL:it≠X.env.locals)
  (h1:it∈X.ex∨X.s₀.heap.objs.size≤it) (h2:∀ x c,X.env.cells.lookup x=some c→c≠it) (h3:∀ p∈X.pn ++ pins,p.1≠it):Inv X pins σ H { s with heap:=h',toks:=t' }:=by
 have nit:∀ b u,H b=some u→b≠it:=fun b u e z=>by rw [z,hn] at e;cases e
 refine I.step (g':=s.gens) (d':=s.drawn) (ch:=[it]) (fun b hb=>?_) (fun b o _ _ hc e _=>k b o (fun z=>hc (by simp [z])) e) (fun b o _ _ hc e _=>⟨o.slots,k b o (fun z=>hc (by simp [z])) e⟩) (fun _ _ _ _ n=>n)
  (fun b o hc e=>⟨o,k b o (fun z=>hc (by simp [z])) e⟩) (fun _ _ e=>e) (fun _ _ _ e=>e) (fun b ps e=>⟨#[],by rw [e];simp⟩) (fun m hm=>?_) (fun b u e=>?_) I.bare
 ·have e:b=it:=by simpa using hb
  subst e
  exact ⟨h1,hL,h2,h3⟩
 ·obtain ⟨o,es,ep,ho,r⟩:=hm
  exact ⟨o,es,ep,k _ o (Ne.symm hL) ho,r⟩
 ·refine (I.hok b u e).stay (fun c v hc q=>k c v ?_ q) (fun _ q=>q) fun _ _ q=>q
  rcases hc with z | z
  ·rw [z];exact nit b u e
  ·exact nit c _ z
theorem Inv.tok (I:Inv X pins σ H s) (t:Nat):Inv X pins σ H { s with toks:=t }:=I.un (h':=s.heap) (t':=t) Un.refl I.hok
theorem Inv.kept {t':Nat} (I:Inv X pins σ H s) (k:∀ b u,s.heap.get? b=some u→h'.get? b=some u):Inv X pins σ H { s with heap:=h',toks:=t' }:=I.un (Un.kept k) (I.hok.kept k)
theorem Inv.laid {a:Addr} {o:HO} {t':Nat} (I:Inv X pins σ H s) (k:∀ b u,s.heap.get? b=some u→h'.get? b=some u) (hp:s.heap.objs.size≤a) (new:ObjOk X.prog X.w (upd H a o) h' a o) :
  Inv X pins σ (upd H a o) { s with heap:=h',toks:=t' }:=I.un (Un.laid k hp (I.hok.fresh hp)) (I.hok.laid k hp new)
theorem Inv.write {x e:Addr} {o:HO} {t':Nat} (I:Inv X pins σ H s) (mu:Mut (H x)) (he:e=x∨H e=some (.own x)) (k:∀ b u,b≠e→s.heap.get? b=some u→h'.get? b=some u) (heo:∃ u,h'.get? e=some u)
  (new:ObjOk X.prog X.w (upd H x o) h' x o):Inv X pins σ (upd H x o) { s with heap:=h',toks:=t' }:=I.un (Un.write mu he k heo) (I.hok.write mu he k heo new)
theorem Inv.pins_of {pins':List (Addr × Obj)} (I:Inv X pins σ H s) (h:∀ p∈pins',s.heap.get? p.1=some p.2∧H p.1=none∧p.1≠X.env.locals∧p.1 ∉ X.fs∧∀ v,p.2.data≠.cell v):Inv X pins' σ H s:=
 ⟨I.ok,I.os,I.bare,I.base,I.loc,I.cell,I.free,I.freeC,fun p hp=>(List.mem_append.mp hp).elim (fun z=>I.pin p (List.mem_append_left _ z)) (h p),I.hok,I.len⟩
theorem nodup_ix {N:List Str} (hN:N.Nodup) {i j:Nat} {x:Str} (a:N[i]?=some x) (b:N[j]?=some x):i=j:=by
 obtain ⟨h1,e1⟩:=List.getElem?_eq_some_iff.mp a
 obtain ⟨h2,e2⟩:=List.getElem?_eq_some_iff.mp b
 exact (List.getElem_inj hN).mp (e1.trans e2.symm)
theorem store_ok2 {M:Model} {A:Around} {E:Value→Shared→Prop} {i:Nat} {x:Str} {v:V} {u:Value} {Q:Unit→Shared→Prop} (I:Inv X pins σ H s) (hN:X.N.Nodup) (hi:X.N[i]?=some x) (hx:Loc X.env.scope x) (r:RelV v u)
  (h:∀ s',Inv X pins (σ.set i (some v)) H s'→(∃ a,Heap.SameBut a s.heap s'.heap∧(a=X.env.locals∨X.env.cells.lookup x=some a))→Q () s') (hf:X.fn x=true∨X.env.scope.names.lookup x=some .local:=by first | exact .inl rfl | exact .inr rfl | assumption):wpAny M A (storeName X.env x u) Q E s:=by
 obtain ⟨m,hn,hl⟩:=id I.loc
 have hcls:(X.env.scope.kind == .class || (X.env.scope.kind == .module && X.env.locals != X.env.globals))=false:=by rw [I.ok.kind];rfl
 have hiσ:i < σ.length:=by rw [I.len];exact (List.getElem?_eq_some_iff.mp hi).1
 have cne:=I.cne
 have tracked:∀ {a:Addr} {h':Heap},(∃ o,s.heap.get? a=some o∧H a=none)→Heap.SameBut a s.heap h'→HOk X.prog X.w H h':=fun {a h'} ha hs b ob e=>by
  obtain ⟨_,_,hfree⟩:=ha
  refine (I.hok b ob e).stay (fun c w' hc q=>(hs.2 c ?_).trans q) (fun _ q=>q) fun _ _ q=>q
  rintro rfl
  rcases hc with rfl | hc
  ·rw [hfree] at e;cases e
  ·rw [hfree] at hc;cases hc
 rcases hx with hk | hk
 ·refine wpAny_storeName_local hk hn (fun h' hn' hs=>?_) hcls
  obtain ⟨oL,_,_,hoL,_⟩:=id hn
  refine h _ ⟨I.ok,I.os,I.bare,⟨fun b o e n hb hx=>?_,fun b o e n hb hx=>?_,I.base.free,fun b o e hx=>?_,I.base.tups,I.base.frzs,I.base.tbls⟩,⟨_,hn',fun j y v' e1 e2 e3=>?_⟩,fun y c e=>?_,I.free,I.freeC,fun p hp=>?_,tracked ⟨oL,hoL,I.free⟩ hs,by simpa using I.len⟩ ⟨_,hs,.inl rfl⟩
  ·exact (hs.2 b (Nat.ne_of_lt (Nat.lt_of_lt_of_le (Heap.lt_size e) I.ok.above))).trans (I.base.keep b o e n hb hx)
  ·obtain ⟨sl,e1⟩:=I.base.slot b o e n hb hx
   exact ⟨sl,(hs.2 b (Nat.ne_of_lt (Nat.lt_of_lt_of_le (Heap.lt_size e) I.ok.above))).trans e1⟩
  ·obtain ⟨o',e1⟩:=I.base.there b o e hx
   exact ⟨o',(hs.2 b (Nat.ne_of_lt (Nat.lt_of_lt_of_le (Heap.lt_size e) I.ok.above))).trans e1⟩
  ·by_cases hj:j=i
   ·subst hj
    rw [hi] at e1;cases e1
    rw [List.getElem?_set_self hiσ] at e2
    cases e2
    exact ⟨u,r,.inl ⟨hk,by simp⟩⟩
   ·rw [List.getElem?_set_ne (Ne.symm hj)] at e2
    obtain ⟨u',r',q⟩:=hl j y v' e1 e2 e3
    refine ⟨u',r',?_⟩
    rcases q with ⟨k,e⟩ | ⟨k,c,e,z⟩
    ·refine .inl ⟨k,?_⟩
     have:y≠x:=fun e=>hj (nodup_ix hN e1 (e ▸ hi))
     simp [this,e]
    ·exact .inr ⟨k,c,e,z.sameBut hs (cne y c e)⟩
  ·obtain ⟨w',z⟩:=I.cell y c e
   exact ⟨w',z.sameBut hs (cne y c e)⟩
  ·obtain ⟨e,n,ne,nf,d⟩:=I.pin p hp
   exact ⟨(hs.2 p.1 ne).trans e,n,ne,nf,d⟩
 ·have hfn:X.fn x=true:=by
   rcases hf with z | z
   ·exact z
   ·rw [z] at hk;cases hk
  obtain ⟨c,hc⟩:=I.ok.has x (.inl hk)
  obtain ⟨w',z⟩:=I.cell x c hc
  refine wpAny_storeName_cell I.ok.kind hk hc z (fun h' hc' hs=>?_)
  obtain ⟨oc,hoc,hocd⟩:=id z
  refine h { s with heap:=h' } ⟨I.ok,I.os,I.bare,⟨fun b o e n hb hx=>?_,fun b o e n hb hx=>?_,I.base.free,fun b o e hx=>?_,I.base.tups,I.base.frzs,I.base.tbls⟩,⟨m,hn.sameBut hs (Ne.symm (cne x c hc)),fun j y v' e1 e2 e3=>?_⟩,fun y c' e=>?_,I.free,I.freeC,fun p hp=>?_,tracked ⟨oc,hoc,I.freeC x c hc⟩ hs,by simpa using I.len⟩ ⟨c,hs,.inr hc⟩
  ·exact (hs.2 b (Nat.ne_of_lt (Nat.lt_of_lt_of_le (Heap.lt_size e) (I.ok.cab x c hfn hc)))).trans (I.base.keep b o e n hb hx)
  ·obtain ⟨sl,e1⟩:=I.base.slot b o e n hb hx
   exact ⟨sl,(hs.2 b (Nat.ne_of_lt (Nat.lt_of_lt_of_le (Heap.lt_size e) (I.ok.cab x c hfn hc)))).trans e1⟩
  ·obtain ⟨o',e1⟩:=I.base.there b o e hx
   exact ⟨o',(hs.2 b (Nat.ne_of_lt (Nat.lt_of_lt_of_le (Heap.lt_size e) (I.ok.cab x c hfn hc)))).trans e1⟩
  ·by_cases hj:j=i
   ·subst hj
    rw [hi] at e1;cases e1
    rw [List.getElem?_set_self hiσ] at e2
    cases e2
    exact ⟨u,r,.inr ⟨.inl hk,c,hc,hc'⟩⟩
   ·rw [List.getElem?_set_ne (Ne.symm hj)] at e2
    obtain ⟨u',r',q⟩:=hl j y v' e1 e2 e3
    refine ⟨u',r',?_⟩
    rcases q with q | ⟨k,c',e,z'⟩
    ·exact .inl q
    ·refine .inr ⟨k,c',e,z'.sameBut hs ?_⟩
     rintro rfl
     exact hj (nodup_ix hN e1 (I.ok.inj _ _ _ e hc ▸ hi))
  ·by_cases hcc:c'=c
   ·subst hcc;exact ⟨_,hc'⟩
   ·obtain ⟨w2,z2⟩:=I.cell y c' e
    exact ⟨w2,z2.sameBut hs hcc⟩
  ·obtain ⟨e,n,ne,nf,d⟩:=I.pin p hp
   refine ⟨(hs.2 p.1 ?_).trans e,n,ne,nf,d⟩
   intro q
   rw [q,hoc] at e
   have q':oc=p.2:=Option.some.inj e
   exact d w' (by rw [← q'];exact hocd)
theorem store_ok {M:Model} {A:Around} {E:Value→Shared→Prop} {i:Nat} {x:Str} {v:V} {u:Value} {Q:Unit→Shared→Prop} (I:Inv X pins σ H s) (hN:X.N.Nodup) (hi:X.N[i]?=some x) (hx:Loc X.env.scope x) (r:RelV v u)
  (h:∀ s',Inv X pins (σ.set i (some v)) H s'→Q () s') (hf:X.fn x=true∨X.env.scope.names.lookup x=some .local:=by first | exact .inl rfl | exact .inr rfl | assumption):wpAny M A (storeName X.env x u) Q E s:=
 store_ok2 I hN hi hx r (fun s' I' _=>h s' I') hf
theorem Inv.call' {s':Shared} {ch:List Addr} (I:Inv X pins σ H s) (ho:s'.os=s.os) (u:Un (frs X.stack) ch H H' s.heap s'.heap) (hok:HOk X.prog X.w H' s'.heap) (hg:AllBare s'.gens)
  (hch:∀ b∈ch,(b∈X.ex∨X.s₀.heap.objs.size≤b)∧b≠X.env.locals∧(∀ x c,X.env.cells.lookup x=some c→c≠b)∧∀ p∈X.pn ++ pins,p.1≠b):Inv X pins σ H' s':=by
 obtain ⟨h',g',d',t',o'⟩:=s'
 have e:o'=s.os:=ho
 subst e
 exact I.call (g':=g') (t':=t') (d':=d') u hok hg hch
end
abbrev XK:=Value→Option Addr→Hp→Prop
abbrev St:=List (Option V)
abbrev VK:=V→Hp→Prop
abbrev TE:=St→Hp→VK→Prop
abbrev TT:=St→Hp→(Bool→Hp→Prop)→Prop
abbrev TA:=St→Hp→(List V→Hp→Prop)→Prop
structure Ends where
 nx:St→Hp→Prop
 rt:VK
 bk:St→Hp→Prop:=fun _ _=>False
 ct:St→Hp→Prop:=fun _ _=>False
abbrev TS:=Ends→St→Hp→Prop
def EP (X:Cx) (pins:List (Addr × Obj)) (σ:St) (Q:VK) (u:Value) (s':Shared):Prop:=∃ v H',Inv X pins σ H' s'∧RelV v u∧Q v H'
def TP (X:Cx) (pins:List (Addr × Obj)) (σ:St) (Q:Bool→Hp→Prop) (b:Bool) (s':Shared):Prop:=∃ H',Inv X pins σ H' s'∧Q b H'
def AP (X:Cx) (pins:List (Addr × Obj)) (σ:St) (Q:List V→Hp→Prop) (us:List Value) (s':Shared):Prop:=∃ vs H',Inv X pins σ H' s'∧Vals vs us∧Q vs H'
def SP (X:Cx) (pins:List (Addr × Obj)) (D:Ends) (f:Flow) (s':Shared):Prop:=
 match f with
 | .next=>∃ σ' H',Inv X pins σ' H' s'∧D.nx σ' H'
 | .brk=>∃ σ' H',Inv X pins σ' H' s'∧D.bk σ' H'
 | .cont=>∃ σ' H',Inv X pins σ' H' s'∧D.ct σ' H'
 | .ret u=>∃ v σ' H',Inv X pins σ' H' s'∧RelV v u∧D.rt v H'
def PE (X:Cx) (e:Expr) (t:TE):Prop:=
 ∀ (pins:List (Addr × Obj)) (s:Shared) (σ:St) (H:Hp) (Q:VK),Inv X pins σ H s→t σ H Q→wpAny (model X.prog X.w) X.A (eval e X.env) (EP X pins σ Q) X.xe s
def PT (X:Cx) (e:Expr) (t:TT):Prop:=
 ∀ (pins:List (Addr × Obj)) (s:Shared) (σ:St) (H:Hp) (Q:Bool→Hp→Prop),Inv X pins σ H s→t σ H Q→wpAny (model X.prog X.w) X.A (isTrue e X.env (eval e X.env)) (TP X pins σ Q) X.xe s
def PW (X:Cx) (e:Expr) (t:TT):Prop:=
 ∀ (whole:Sem Value) (pins:List (Addr × Obj)) (s:Shared) (σ:St) (H:Hp) (Q:Bool→Hp→Prop),Inv X pins σ H s→t σ H Q→wpAny (model X.prog X.w) X.A (isTrue e X.env whole) (TP X pins σ Q) X.xe s
theorem PW.pt {X:Cx} {e:Expr} {t:TT} (h:PW X e t):PT X e t:=h _
def PA (X:Cx) (es:List Expr) (t:TA):Prop:=
 ∀ (pos:Pos) (pins:List (Addr × Obj)) (s:Shared) (σ:St) (H:Hp) (Q:List V→Hp→Prop),Inv X pins σ H s→t σ H Q→wpAny (model X.prog X.w) X.A (spliced (backTo pos (starEach es X.env))) (AP X pins σ Q) X.xe s
def PS (X:Cx) (st:Stmt) (t:TS):Prop:=
 ∀ (pins:List (Addr × Obj)) (s:Shared) (σ:St) (H:Hp) (D:Ends),Inv X pins σ H s→t D σ H→wpAny (model X.prog X.w) X.A (exec st X.env) (SP X pins D) X.xe s
def PSs (X:Cx) (st:List Stmt) (t:TS):Prop:=
 ∀ (pins:List (Addr × Obj)) (s:Shared) (σ:St) (H:Hp) (D:Ends),Inv X pins σ H s→t D σ H→wpAny (model X.prog X.w) X.A (execs st X.env) (SP X pins D) X.xe s
theorem thn {α:Type} {t:Sem α} {Q Q':α→Shared→Prop} {M:Model} {A:Around} {E:Value→Shared→Prop} {s:Shared} (h:wpAny M A t Q E s) (hQ:∀ a s,Q a s→Q' a s):wpAny M A t Q' E s:=wpAny_mono h hQ fun _ _ x=>x
end L2
namespace L2
open PySem PySem.Spec PyProof.Rows
section
variable {X:Cx}
def tVar (i:Nat):TE:=fun σ H Q=>∃ v,σ[i]?=some (some v)∧Q v H
def tC (v:V):TE:=fun _ H Q=>Q v H
theorem pe_var {i:Nat} {x:Str} {pos:Pos} (hN:X.N[i]?=some x) (hv:Vis X.env.scope x) (hd:(x == ("__debug__":Str))=false:=by decide) (hcd:(x == ("__classdict__":Str))=false:=by decide):PE X (.Name x pos) (tVar i):=by
 intro pins s σ H Q I h
 obtain ⟨v,e,h⟩:=h
 obtain ⟨m,hn,hl⟩:=I.loc
 obtain ⟨u,r,l⟩:=hl i x v hN e hv
 have fin:EP X pins σ Q u s:=⟨v,H,I,r,h⟩
 rcases l with ⟨hk,hm⟩ | ⟨hk,c,hc,hcell⟩
 ·exact wpAny_Name (wpAny_loadName_local I.ok.kind hk hn hm fin) hd
 ·rcases hk with hk | hk
  ·exact wpAny_Name (wpAny_loadName_cell I.ok.kind hk hc hcell fin) hd
  ·exact wpAny_Name (wpAny_loadName_free I.ok.kind hk hc hcell fin hcd) hd
theorem pe_int {i j pos}:PE X (.Constant (.int i) j pos) (tC (.int i)):=fun _ _ _ H _ I h=>wpAny_Constant_int ⟨.int i,H,I.tok _,⟨_,rfl⟩,h⟩
theorem pe_non {j pos}:PE X (.Constant .none j pos) (tC .non):=fun _ _ _ H _ I h=>Constant_none ⟨.non,H,I,rfl,h⟩
theorem pe_str {x j pos}:PE X (.Constant (.str x) j pos) (tC (.str x)):=fun _ _ _ H _ I h=>Calls.Constant_str ⟨.str x,H,I.tok _,⟨_,rfl⟩,h⟩
def Gl (X:Cx) (x:Str):Prop:=X.env.kindOf x=some .globalImplicit
theorem ld_glob {E:Value→Shared→Prop} {pins:List (Addr × Obj)} {s:Shared} {σ:St} {H:Hp} {x:Str} {u:Value} {pos:Pos} {Q:Value→Shared→Prop} (I:Inv X pins σ H s) (hg:Gl X x) (hm:X.mg x=some u) (h:Q u s)
  (hd:(x == ("__debug__":Str))=false:=by decide):wpAny (model X.prog X.w) X.A (eval (.Name x pos) X.env) Q E s:=
 Calls.Name_function_global I.ok.kind hg (Calls.loadGlobal_global (by rw [I.ok.glob];exact I.mod.glob.keeps I.bk) hm h) hd
theorem ld_blt {E:Value→Shared→Prop} {pins:List (Addr × Obj)} {s:Shared} {σ:St} {H:Hp} {x:Str} {u:Value} {pos:Pos} {Q:Value→Shared→Prop} (I:Inv X pins σ H s) (hg:Gl X x) (hm:X.mg x=none) (hv:bootBuiltins x=some u) (h:Q u s)
  (hn:x≠"__name__":=by decide) (hd:(x == ("__debug__":Str))=false:=by decide):wpAny (model X.prog X.w) X.A (eval (.Name x pos) X.env) Q E s:=by
 obtain ⟨mb,h1,h2⟩:=I.mod.blt
 exact Calls.Name_function_global I.ok.kind hg (Calls.loadGlobal_builtin (by rw [I.ok.glob];exact I.mod.glob.keeps I.bk) hm (by rw [I.ok.blt];exact h1.keeps I.bk) ((h2 x hn).trans hv) h) hd
theorem pe_glob {x:Str} {v:V} {u:Value} {pos:Pos} (hg:Gl X x) (hm:X.mg x=some u) (r:RelV v u) (hd:(x == ("__debug__":Str))=false:=by decide):PE X (.Name x pos) (tC v):=
 fun _ _ _ H _ I h=>ld_glob I hg hm ⟨v,H,I,r,h⟩ hd
theorem pe_bltn {x:Str} {v:V} {u:Value} {pos:Pos} (hg:Gl X x) (hm:X.mg x=none) (hv:bootBuiltins x=some u) (r:RelV v u) (hn:x≠"__name__":=by decide) (hd:(x == ("__debug__":Str))=false:=by decide):PE X (.Name x pos) (tC v):=
 fun _ _ _ H _ I h=>ld_blt I hg hm hv ⟨v,H,I,r,h⟩ hn hd
variable {a b:Expr} {ta tb:TE} {pos:Pos}
def PC (X:Cx) (op:CmpOp) (a b:Expr) (t:TE):Prop:=
 ∀ (pins:List (Addr × Obj)) (s:Shared) (σ:St) (H:Hp) (Q:VK),Inv X pins σ H s→t σ H Q →
  wpAny (model X.prog X.w) X.A (eval a X.env) (fun v s₁=>wpAny (model X.prog X.w) X.A (eval b X.env) (fun u s₂=>wpAny (model X.prog X.w) X.A (compareOp op v u) (EP X pins σ Q) X.xe s₂) X.xe s₁) X.xe s
theorem nobehind (b:Expr) {op:CmpOp} (h:op≠.In) (h2:op≠.NotIn):behindInMarks op b=false:=by
 have e1:(op == CmpOp.In)=false:=by cases op <;> first | rfl | exact absurd rfl h
 have e2:(op == CmpOp.NotIn)=false:=by cases op <;> first | rfl | exact absurd rfl h2
 cases b <;> simp [behindInMarks,e1,e2]
def tB (t:TE):TT:=fun σ H Q=>t σ H fun x H1=>∃ c,x=.bl c∧Q c H1
theorem pt_cmp {op:CmpOp} {t:TE} (h:PC X op a b t) (h1:behindInMarks op b=false:=by first | exact nobehind _ (by decide) (by decide) | rfl):PT X (.Compare a [op] [b] pos) (tB t):=by
 intro pins s σ H Q I hw
 refine wpAny_isTrue_Compare1 (thn (h pins s σ H _ I hw) fun v s1 h1=>thn h1 fun u s2 h2=>thn h2 fun c s3 ⟨x,H1,I1,r1,q1⟩=>?_) h1
 obtain ⟨d,rfl,q⟩:=q1
 cases r1
 exact wpAny_truthy_bool ⟨H1,I1,q⟩
variable {tA tB':TT} {rest:List Expr}
def tAnd (t u:TT):TT:=fun σ H Q=>t σ H fun c H1=>if c=true then u σ H1 Q else Q false H1
def tOr (t u:TT):TT:=fun σ H Q=>t σ H fun c H1=>if c=true then Q true H1 else u σ H1 Q
def tNot (t:TT):TT:=fun σ H Q=>t σ H fun c H1=>Q (!c) H1
theorem pw_and1 (ha:PT X a tA):PW X (.BoolOp .And [a] pos) tA:=by
 intro wh pins s σ H Q I h
 refine isTrue_and (thn (ha pins s σ H Q I h) fun c s1 e=>?_)
 cases c with
 | true=>exact isTrue_and_nil e
 | false=>exact e
theorem pw_or1 (ha:PT X a tA):PW X (.BoolOp .Or [a] pos) tA:=by
 intro wh pins s σ H Q I h
 refine isTrue_or (thn (ha pins s σ H Q I h) fun c s1 e=>?_)
 cases c with
 | false=>exact isTrue_or_nil e
 | true=>exact e
theorem pw_and (ha:PT X a tA) (hb:PW X (.BoolOp .And (b :: rest) pos) tB'):PW X (.BoolOp .And (a :: b :: rest) pos) (tAnd tA tB'):=by
 intro wh pins s σ H Q I h
 refine isTrue_and (thn (ha pins s σ H _ I h) fun c s1 ⟨H1,I1,q1⟩=>?_)
 cases c with
 | true=>exact hb wh pins s1 σ H1 Q I1 q1
 | false=>exact ⟨H1,I1,q1⟩
theorem pw_or (ha:PT X a tA) (hb:PW X (.BoolOp .Or (b :: rest) pos) tB'):PW X (.BoolOp .Or (a :: b :: rest) pos) (tOr tA tB'):=by
 intro wh pins s σ H Q I h
 refine isTrue_or (thn (ha pins s σ H _ I h) fun c s1 ⟨H1,I1,q1⟩=>?_)
 cases c with
 | true=>exact ⟨H1,I1,q1⟩
 | false=>exact hb wh pins s1 σ H1 Q I1 q1
theorem pt_not (ha:PT X a tA):PT X (.UnaryOp .Not a pos) (tNot tA):=by
 intro pins s σ H Q I h
 exact isTrue_not (ha pins s σ H (fun c H1=>Q (!c) H1) I h)
def tAndV (ta tb:TE):TE:=fun σ H Q=>ta σ H fun x H1=>∃ c,x=.bl c∧if c=true then tb σ H1 Q else Q (.bl false) H1
def tOrV (ta tb:TE):TE:=fun σ H Q=>ta σ H fun x H1=>∃ c,x=.bl c∧if c=true then Q (.bl true) H1 else tb σ H1 Q
def tNotV (ta:TE):TE:=fun σ H Q=>ta σ H fun x H1=>∃ c,x=.bl c∧Q (.bl (!c)) H1
theorem pe_one {op} {t:TE} (h:PE X a t):PE X (.BoolOp op [a] pos) t:=fun pins s σ H Q I hw=>BoolOp_one (h pins s σ H Q I hw)
theorem pe_and (ha:PE X a ta) (hb:PE X (.BoolOp .And (b :: rest) pos) tb):PE X (.BoolOp .And (a :: b :: rest) pos) (tAndV ta tb):=by
 intro pins s σ H Q I h
 refine BoolOp_and (thn (ha pins s σ H _ I h) fun v s1 ⟨x,H1,I1,r1,q1⟩=>?_)
 obtain ⟨c,rfl,q1⟩:=q1
 cases r1
 refine wpAny_truthy_bool ?_
 cases c with
 | true=>exact hb pins s1 σ H1 Q I1 q1
 | false=>exact ⟨.bl false,H1,I1,rfl,q1⟩
theorem pe_not (ha:PE X a ta):PE X (.UnaryOp .Not a pos) (tNotV ta):=by
 intro pins s σ H Q I h
 refine UnaryOp_ (thn (ha pins s σ H _ I h) fun v s1 ⟨x,H1,I1,r1,q1⟩=>?_)
 obtain ⟨c,rfl,q1⟩:=q1
 cases r1
 exact not_of (wpAny_truthy_bool ⟨.bl (!c),H1,I1,rfl,q1⟩)
def tIf (t:TT) (ta tb:TE):TE:=fun σ H Q=>t σ H fun c H1=>if c=true then ta σ H1 Q else tb σ H1 Q
end
end L2
namespace L2
open PySem PySem.Spec PyProof.Rows
def SqL (K:PySem.W.Frag) (H:Hp) (a:Addr) (xs:List V):Prop:=
 Rd H a (.lst xs) ∨
  ∃ (o:Obj) (its:Array Value) (n:Nat),K.lookup a=some o∧o.cls=.type "list"∧o.dict=none∧o.data=.seq its n∧its.size≤sizeLine∧Vals xs its.toList
def SqT (K:PySem.W.Frag) (H:Hp) (a:Addr) (xs:List V):Prop:=
 Rd H a (.tup xs) ∨
  ∃ (o:Obj) (its:Array Value) (n:Nat),K.lookup a=some o∧o.cls=.type "tuple"∧o.data=.seq its n∧its.size≤sizeLine∧Vals xs its.toList
def absV:Value→Option V
 | .none=>some .non
 | .bool b=>some (.bl b)
 | .int i _=>some (.int i)
 | .str x _=>some (.str x)
 | .bytes b _=>some (.byt b)
 | .float b _=>some (.flt b)
 | .ref a=>some (.ref a)
 | .type n=>some (.ty n)
 | _=>none
theorem RelV.abs {x:V} {u:Value} (r:RelV x u):absV u=some x:=by
 cases x with
 | non=>cases r;rfl
 | bl _=>cases r;rfl
 | int _=>obtain ⟨t,rfl⟩:=r;rfl
 | str _=>obtain ⟨t,rfl⟩:=r;rfl
 | byt _=>obtain ⟨t,rfl⟩:=r;rfl
 | flt _=>obtain ⟨t,rfl⟩:=r;rfl
 | ref _=>cases r;rfl
 | ty _=>cases r;rfl
theorem RelV.inj {x y:V} {u:Value} (r:RelV x u) (q:RelV y u):x=y:=Option.some.inj (r.abs.symm.trans q.abs)
theorem Vals.inj:∀ {xs ys:List V} {us:List Value},Vals xs us→Vals ys us→xs=ys
 | _,_,_,.nil,.nil=>rfl
 | _,_,_,.cons r t,.cons r' t'=>by rw [r.inj r',Vals.inj t t']
section
variable {X:Cx} {pins:List (Addr × Obj)} {σ:St} {H:Hp} {s:Shared} {a:Addr} {xs ys:List V}
theorem SqL.of {K:PySem.W.Frag} (h:H a=some (.lst xs)):SqL K H a xs:=.inl (.inl h)
theorem SqT.of {K:PySem.W.Frag} (h:H a=some (.tup xs)):SqT K H a xs:=.inl (.inl h)
theorem Inv.list (I:Inv X pins σ H s) (h:SqL X.K H a xs):∃ its:List Value,Vals xs its∧PlainL s.heap a its.toArray∧xs.length≤sizeLine:=by
 rcases h with h | ⟨o,its,n,hk,hc,hd,hs,hz,r⟩
 ·obtain ⟨z,its,n,r,e⟩:=h.ok I.hok
  exact ⟨its,r,⟨_,n,e,rfl,rfl,rfl⟩,z⟩
 ·refine ⟨its.toList,r,⟨o,n,I.kIn a o hk,hc,hd,by simpa using hs⟩,?_⟩
  have e:=r.length
  simp only [Array.length_toList] at e
  omega
theorem Inv.tuple (I:Inv X pins σ H s) (h:SqT X.K H a xs):∃ its:List Value,Vals xs its∧IsTup s.heap a its.toArray∧xs.length≤sizeLine:=by
 rcases h with h | ⟨o,its,n,hk,hc,hs,hz,r⟩
 ·obtain ⟨z,its,r,p⟩:=h.ok I.hok
  exact ⟨its,r,p,z⟩
 ·refine ⟨its.toList,r,⟨o,I.kIn a o hk,hc,n,by simpa using hs⟩,?_⟩
  have e:=r.length
  simp only [Array.length_toList] at e
  omega
theorem Inv.list_inj (I:Inv X pins σ H s) (h:SqL X.K H a xs) (h':SqL X.K H a ys):xs=ys:=by
 obtain ⟨its,r,⟨o,n,e,_,_,d⟩,_⟩:=I.list h
 obtain ⟨its',r',⟨o',n',e',_,_,d'⟩,_⟩:=I.list h'
 rw [e] at e';cases e'
 rw [d] at d'
 injection d' with d1 _
 have:its=its':=by simpa using congrArg Array.toList d1
 subst this
 exact r.inj r'
theorem Inv.tuple_inj (I:Inv X pins σ H s) (h:SqT X.K H a xs) (h':SqT X.K H a ys):xs=ys:=by
 obtain ⟨its,r,⟨o,e,_,n,d⟩,_⟩:=I.tuple h
 obtain ⟨its',r',⟨o',e',_,n',d'⟩,_⟩:=I.tuple h'
 rw [e] at e';cases e'
 rw [d] at d'
 injection d' with d1 _
 have:its=its':=by simpa using congrArg Array.toList d1
 subst this
 exact r.inj r'
end
abbrev Cx.wish (X:Cx) (E:Value→Shared→Prop):Cx:={ X with xe:=E }
abbrev Cx.nox (X:Cx):Cx:=X.wish fun _ _=>False
theorem Cx.Ok.wish {X:Cx} (ok:X.Ok) (E:Value→Shared→Prop):(X.wish E).Ok:=
 ⟨ok.mod,ok.kind,ok.glob,ok.blt,ok.above,ok.inj,ok.has,ok.cab,ok.hd,ok.frames,ok.stk,ok.exf,ok.bs,ok.bsz,ok.noex,ok.exfs,ok.funs,ok.frf⟩
theorem Cx.Ok.unwish {X:Cx} {E:Value→Shared→Prop} (ok:(X.wish E).Ok):X.Ok:=
 ⟨ok.mod,ok.kind,ok.glob,ok.blt,ok.above,ok.inj,ok.has,ok.cab,ok.hd,ok.frames,ok.stk,ok.exf,ok.bs,ok.bsz,ok.noex,ok.exfs,ok.funs,ok.frf⟩
section
variable {X:Cx} {pins:List (Addr × Obj)} {σ:St} {H:Hp} {s:Shared} {E:Value→Shared→Prop}
theorem Inv.wish (I:Inv X pins σ H s) (E:Value→Shared→Prop):Inv (X.wish E) pins σ H s:=⟨I.ok.wish E,I.os,I.bare,I.base,I.loc,I.cell,I.free,I.freeC,I.pin,I.hok,I.len⟩
theorem Inv.unwish (I:Inv (X.wish E) pins σ H s):Inv X pins σ H s:=⟨I.ok.unwish,I.os,I.bare,I.base,I.loc,I.cell,I.free,I.freeC,I.pin,I.hok,I.len⟩
theorem SP.unwish {D:Ends} {f:Flow} {s':Shared} (h:SP (X.wish E) pins D f s'):SP X pins D f s':=by
 cases f with
 | next=>obtain ⟨σ',H',I,q⟩:=h;exact ⟨σ',H',I.unwish,q⟩
 | brk=>obtain ⟨σ',H',I,q⟩:=h;exact ⟨σ',H',I.unwish,q⟩
 | cont=>obtain ⟨σ',H',I,q⟩:=h;exact ⟨σ',H',I.unwish,q⟩
 | ret u=>obtain ⟨v,σ',H',I,r,q⟩:=h;exact ⟨v,σ',H',I.unwish,r,q⟩
theorem PE.nox {e:Expr} {t:TE} (h:PE X.nox e t):PE X e t:=fun pins s σ H Q I hw=>
 wpAny_mono (h pins s σ H Q (I.wish _) hw) (fun _ _ ⟨v,H',I',r,q⟩=>⟨v,H',I'.unwish,r,q⟩) fun _ _ z=>False.elim z
theorem PT.nox {e:Expr} {t:TT} (h:PT X.nox e t):PT X e t:=fun pins s σ H Q I hw=>
 wpAny_mono (h pins s σ H Q (I.wish _) hw) (fun _ _ ⟨H',I',q⟩=>⟨H',I'.unwish,q⟩) fun _ _ z=>False.elim z
theorem PSs.nox {st:List Stmt} {t:TS} (h:PSs X.nox st t):PSs X st t:=fun pins s σ H D I hw=>
 wpAny_mono (h pins s σ H D (I.wish _) hw) (fun _ _ q=>q.unwish) fun _ _ z=>False.elim z
end
section
variable {X:Cx} {st:Stmt} {rest:List Stmt} {t u:TS} {e:Expr} {te:TE} {pos:Pos}
def tNext:TS:=fun D σ H=>D.nx σ H
def tSeq (t u:TS):TS:=fun D σ H=>t { D with nx:=u D } σ H
theorem pss_nil:PSs X [] tNext:=fun _ _ σ H _ I h=>wpAny_execs_nil ⟨σ,H,I,h⟩
theorem pss_cons (h1:PS X st t) (h2:PSs X rest u):PSs X (st :: rest) (tSeq t u):=by
 intro pins s σ H D I h
 refine wpAny_execs_cons (thn (h1 pins s σ H { D with nx:=u D } I h) fun f s1 q=>?_)
 cases f with
 | next=>
  obtain ⟨σ',H',I',q⟩:=q
  exact h2 pins s1 σ' H' D I' q
 | ret v=>exact q
 | brk=>exact q
 | cont=>exact q
theorem pss_one (h1:PS X st t):PSs X [st] t:=by
 intro pins s σ H D I h
 refine wpAny_execs_cons (thn (h1 pins s σ H D I h) fun f s1 q=>?_)
 cases f with
 | next=>exact wpAny_execs_nil q
 | ret v=>exact q
 | brk=>exact q
 | cont=>exact q
def tBreak:TS:=fun D σ H=>D.bk σ H
def tCont:TS:=fun D σ H=>D.ct σ H
theorem Inv.quiet {pins:List (Addr × Obj)} {σ:St} {H:Hp} {s:Shared} (I:Inv X pins σ H s):interactive X.env=false:=by simp [interactive,I.ok.kind]
def tDrop (te:TE):TS:=fun D σ H=>te σ H fun _ H1=>D.nx σ H1
theorem ps_expr (he:PE X e te) (hs:swapsWith e none pos.line X.env=pure false:=by rfl):PS X (.Expr e pos) (tDrop te):=by
 intro pins s σ H D I h
 exact wpAny_Expr_any (thn (he pins s σ H _ I h) fun v s1 ⟨x,H1,I1,r1,q1⟩=>⟨σ,H1,I1,q1⟩) I.quiet hs
def tRet (te:TE):TS:=fun D σ H=>te σ H D.rt
theorem ps_ret (he:PE X e te):PS X (.Return (some e) pos) (tRet te):=by
 intro pins s σ H D I h
 exact wpAny_Return_some (thn (he pins s σ H _ I h) fun v s1 ⟨x,H1,I1,r1,q1⟩=>⟨x,σ,H1,I1,r1,q1⟩)
def tRetN:TS:=fun D _ H=>D.rt .non H
def tIfS (c:TT) (t u:TS):TS:=fun D σ H=>c σ H fun b H1=>if b=true then t D σ H1 else u D σ H1
theorem ps_if {c:Expr} {a b:List Stmt} {tc:TT} (hc:PT X c tc) (ha:PSs X a t) (hb:PSs X b u):PS X (.If c a b pos) (tIfS tc t u):=by
 intro pins s σ H D I h
 refine wpAny_If (thn (hc pins s σ H _ I h) fun d s1 ⟨H1,I1,q1⟩=>?_)
 cases d with
 | true=>exact ha pins s1 σ H1 D I1 q1
 | false=>exact hb pins s1 σ H1 D I1 q1
end
abbrev TG:=V→St→Hp→(St→Hp→Prop)→Prop
abbrev TGs:=List V→St→Hp→(St→Hp→Prop)→Prop
def PG (X:Cx) (target:Expr) (t:TG):Prop:=
 ∀ (pins:List (Addr × Obj)) (s:Shared) (σ:St) (H:Hp) (v:V) (u:Value) (Q:St→Hp→Prop),Inv X pins σ H s→RelV v u→t v σ H Q →
  wpAny (model X.prog X.w) X.A (assign target X.env u) (fun _ s'=>∃ σ' H',Inv X pins σ' H' s'∧Q σ' H') X.xe s
def PGs (X:Cx) (ts:List Expr) (t:TGs):Prop:=
 ∀ (pins:List (Addr × Obj)) (s:Shared) (σ:St) (H:Hp) (vs:List V) (us:List Value) (Q:St→Hp→Prop),Inv X pins σ H s→Vals vs us→t vs σ H Q →
  wpAny (model X.prog X.w) X.A (assignInOrder ((assignEach ts X.env).map (·.2)) us) (fun _ s'=>∃ σ' H',Inv X pins σ' H' s'∧Q σ' H') X.xe s
abbrev TSet:=V→V→V→Hp→(Hp→Prop)→Prop
def PSet (X:Cx) (t:TSet):Prop:=
 ∀ (pins:List (Addr × Obj)) (s:Shared) (σ:St) (H:Hp) (o i v:V) (ov iv u:Value) (Q:Hp→Prop),Inv X pins σ H s→RelV o ov→RelV i iv→RelV v u→t o i v H Q →
  wpAny (model X.prog X.w) X.A (setItem ov iv u) (fun _ s'=>∃ H',Inv X pins σ H' s'∧Q H') X.xe s
section
variable {X:Cx} {pos:Pos}
def gName (i:Nat):TG:=fun v σ H Q=>Q (σ.set i (some v)) H
theorem pg_name {i:Nat} {x:Str} (hN:X.N.Nodup) (hi:X.N[i]?=some x) (hx:Loc X.env.scope x) (hf:X.fn x=true∨X.env.scope.names.lookup x=some .local:=by first | exact .inl rfl | exact .inr rfl | assumption):PG X (.Name x pos) (gName i):=by
 intro pins s σ H v u Q I r h
 exact wpAny_assign_Name (store_ok I hN hi hx r (fun s' I'=>⟨_,H,I',h⟩) hf)
def gNil:TGs:=fun vs σ H Q=>vs=[]∧Q σ H
def gCons (t:TG) (u:TGs):TGs:=fun vs σ H Q=>∃ v r,vs=v :: r∧t v σ H fun σ' H'=>u r σ' H' Q
theorem pgs_nil:PGs X [] gNil:=by
 intro pins s σ H vs us Q I r h
 obtain ⟨e,h⟩:=h
 subst e
 cases r
 exact assignInOrder_nil ⟨σ,H,I,h⟩
theorem pgs_cons {e:Expr} {es:List Expr} {t:TG} {u:TGs} (h1:PG X e t) (h2:PGs X es u)
  (hs:(assignEach (e :: es) X.env).map (·.2)=assign e X.env :: (assignEach es X.env).map (·.2):=by rfl):PGs X (e :: es) (gCons t u):=by
 intro pins s σ H vs us Q I r h
 obtain ⟨v,vr,e1,h⟩:=h
 subst e1
 cases r with
 | cons r rr=>
  rw [hs]
  refine assignInOrder_cons (thn (h1 pins s σ H _ _ _ I r h) fun _ s1 ⟨σ1,H1,I1,q1⟩=>?_)
  exact h2 pins s1 σ1 H1 _ _ Q I1 rr q1
def gTup (K:PySem.W.Frag) (n:Nat) (t:TGs):TG:=fun v σ H Q=>∃ a xs,v=.ref a∧SqT K H a xs∧xs.length=n∧t xs σ H Q
theorem pg_tup {es:List Expr} {k:Nat} {t:TGs} {n:Nat} (hc:X.calm=true) (h:PGs X es t)
  (hn:(assignEach es X.env).length=n:=by rfl) (hst:(assignEach es X.env).findIdx? (·.1)=none:=by rfl):PG X (.Tuple es k pos) (gTup X.K n t):=by
 intro pins s σ H v u Q I r hw
 obtain ⟨a,xs,e1,hq,hl,hw⟩:=hw
 subst e1
 cases r
 obtain ⟨its,rv,ht,hz⟩:=I.tuple hq
 refine assign_Tuple_tuple (I.ok.hd hc) ht (by simp [hn,← hl,rv.length]) hst fun h' hx=>?_
 have I1:Inv X pins σ H { s with heap:=h' }:=I.kept (t':=s.toks) fun b o e=>hx b o (Nat.ne_of_lt (Heap.lt_size e)) e
 exact h pins _ σ H xs _ Q I1 (by simpa using rv) hw
def gSub (to ti:TE) (t:TSet):TG:=fun v σ H Q=>to σ H fun o H1=>ti σ H1 fun i H2=>t o i v H2 fun H3=>Q σ H3
theorem pg_sub {o i:Expr} {to ti:TE} {t:TSet} (ho:PE X o to) (hi:PE X i ti) (hs:PSet X t)
  (ha:∀ v,assign (.Subscript o i pos) X.env v=(do
   let ov ← holding [v] (eval o X.env)
   let iv ← holding [v,ov] (eval i X.env)
   standAt pos
   holding [v,ov,iv] (setItem ov iv v)
   release [v,ov,iv] []):=by intro _;rfl):PG X (.Subscript o i pos) (gSub to ti t):=by
 intro pins s σ H v u Q I r h
 rw [ha]
 refine wpAny_bind (wpAny_holding (thn (ho pins s σ H _ I h) fun ov s1 ⟨x,H1,I1,r1,q1⟩=>?_))
 refine wpAny_bind (wpAny_holding (thn (hi pins s1 σ H1 _ I1 q1) fun iv s2 ⟨y,H2,I2,r2,q2⟩=>?_))
 refine wpAny_bind (wpAny_standAt (wpAny_bind (wpAny_holding (thn (hs pins s2 σ H2 x y v ov iv u _ I2 r1 r2 r q2) fun _ s3 ⟨H3,I3,q3⟩=>?_))))
 exact wpAny_release ⟨σ,H3,I3,q3⟩
def tAsg (te:TE) (g:TG):TS:=fun D σ H=>te σ H fun x H1=>g x σ H1 D.nx
theorem ps_asg {tg e:Expr} {te:TE} {g:TG} (he:PE X e te) (hg:PG X tg g) (hs:swapsWithSole [tg] e pos.line X.env=pure false:=by rfl) (hw:swappedStores [tg] e X.env=pure none:=by rfl)
  (h1:(assignEach [tg] X.env).map (·.2)=[assign tg X.env]:=by rfl):PS X (.Assign [tg] e pos) (tAsg te g):=by
 intro pins s σ H D I h
 refine wpAny_Assign_stores (thn (he pins s σ H _ I h) fun v s1 ⟨x,H1,I1,r1,q1⟩=>?_) hs hw
 rw [h1]
 exact thn (hg pins s1 σ H1 x v _ I1 r1 q1) fun _ s2 q=>q
theorem ps_set {i:Nat} {x:Str} {e:Expr} {te:TE} {pos':Pos} (hN:X.N.Nodup) (hi:X.N[i]?=some x) (hx:Loc X.env.scope x) (he:PE X e te) (hs:swapsWith e (some (.Name x pos')) pos.line X.env=pure false:=by rfl) (hf:X.fn x=true∨X.env.scope.names.lookup x=some .local:=by first | exact .inl rfl | exact .inr rfl | assumption) :
  PS X (.Assign [.Name x pos'] e pos) (tAsg te (gName i)):=by
 intro pins s σ H D I h
 refine wpAny_Assign_Name (thn (he pins s σ H _ I h) fun v s1 ⟨y,H1,I1,r1,q1⟩=>?_) hs
 exact store_ok I1 hN hi hx r1 (fun s2 I2=>⟨_,H1,I2,q1⟩) hf
def tPar (i j:Nat) (ta:TA):TS:=fun D σ H=>ta σ H fun vs H1=>∃ v w,vs=[v,w]∧D.nx ((σ.set i (some v)).set j (some w)) H1
end
section
variable {X:Cx} {pos:Pos}
end
structure It where
 go:Nat→Hp→Prop
 yld:Nat→Hp→V→Hp→Prop
 stop:Nat→Hp→Prop
def FpOk (X:Cx) (pins:List (Addr × Obj)) (H:Hp) (b:Addr):Prop:=
 H b=none∧b≠X.env.locals∧b ∉ X.fs∧(b∈X.ex∨X.s₀.heap.objs.size≤b)∧(∀ x c,X.env.cells.lookup x=some c→c≠b)∧∀ p∈X.pn ++ pins,p.1≠b
theorem Inv.fpOk {X:Cx} {pins:List (Addr × Obj)} {σ:St} {H H':Hp} {s:Shared} {b:Addr} (I:Inv X pins σ H s) (hb:s.heap.objs.size≤b) (hn:H' b=none):FpOk X pins H' b:=by
 refine ⟨hn,Nat.ne_of_gt (Nat.lt_of_lt_of_le I.lt hb),I.nofs hb,.inr (Nat.le_trans I.sz hb),fun x c e z=>?_,fun p hp z=>?_⟩
 ·obtain ⟨v,q⟩:=I.cell x c e
  exact absurd (Nat.lt_of_lt_of_le q.lt (by rw [z];exact hb)) (Nat.lt_irrefl _)
 ·exact absurd (Nat.lt_of_lt_of_le (Heap.lt_size (I.pin p hp).1) (by rw [z];exact hb)) (Nat.lt_irrefl _)
structure Turn (P:Program) (w:World) (K:PySem.W.Frag) (tg:Expr) (J:It) (fp:List Addr) (it:Addr) (tn:Nat→Heap→Prop):Prop where
 mem:it∈fp
 obj:∀ i h,tn i h→∀ b∈fp,∃ o,h.get? b=some o∧∀ v,o.data≠.cell v
 keep:∀ i h h',tn i h→(∀ b∈fp,∀ o,h.get? b=some o→h'.get? b=some o)→tn i h'
 item:∀ (X:Cx),X.prog=P→X.w=w→X.K=K→X.calm=true→∀ (i:Nat) (pins:List (Addr × Obj)) (s:Shared) (σ:St) (H:Hp) (E:Value→Shared→Prop),Inv X pins σ H s→(∀ b∈fp,FpOk X pins H b)→tn i s.heap→J.go i H →
  wpAny (model P w) X.A (pyNext (.ref it)) (fun r s1=>∃ u,r=some u ∧
   wpAny (model P w) X.A (letOwnedTupleGo tg (.ref it) u) (fun _ s2=>∃ x H',Inv X pins σ H' s2∧RelV x u∧J.yld i H x H'∧tn (i + 1) s2.heap∧∀ b∈fp,H' b=none) E s1) E s
 done:∀ (X:Cx),X.prog=P→X.w=w→X.K=K→X.calm=true→∀ (i:Nat) (pins:List (Addr × Obj)) (s:Shared) (σ:St) (H:Hp) (E:Value→Shared→Prop),Inv X pins σ H s→(∀ b∈fp,FpOk X pins H b)→tn i s.heap→J.stop i H →
  wpAny (model P w) X.A (pyNext (.ref it)) (fun r s1=>r=none∧Inv X pins σ H s1) E s
 self:∀ (A:Around) (i:Nat) (s:Shared) (Q:Value→Shared→Prop) (E:Value→Shared→Prop),tn i s.heap→Q (.ref it) s→wpAny (model P w) A (pyIter (.ref it)) Q E s
abbrev TI:=St→Hp→(It→Hp→Prop)→Prop
def PIE (X:Cx) (pins:List (Addr × Obj)) (σ:St) (tg:Expr) (R:It→Hp→Prop) (itv:Value) (s2:Shared):Prop:=
 ∃ (it:Addr) (fp:List Addr) (tn:Nat→Heap→Prop) (J:It) (H':Hp),itv=.ref it∧Inv X pins σ H' s2∧Turn X.prog X.w X.K tg J fp it tn∧tn 0 s2.heap∧(∀ b∈fp,FpOk X pins H' b)∧R J H'
def PI (X:Cx) (tg iter:Expr) (wi:TI):Prop:=
 ∀ (pins:List (Addr × Obj)) (s:Shared) (σ:St) (H:Hp) (R:It→Hp→Prop),Inv X pins σ H s→wi σ H R →
  wpAny (model X.prog X.w) X.A (eval iter X.env) (fun v s1=>wpAny (model X.prog X.w) X.A (pyIter v) (PIE X pins σ tg R) X.xe s1) X.xe s
theorem go_of {M:Model} {A:Around} {E:Value→Shared→Prop} {s:Shared} {tg:Expr} {it:Addr} {u:Value} {o:Obj} {n:String} {vs:Array Value} {Q:Unit→Shared→Prop} (ho:s.heap.get? it=some o) (hc:o.cls=.type n) (hd:o.data=.fields vs)
  (hn:["enumerate","zip","dict_itemiterator","dict_reverseitemiterator","odict_iterator","itertools.zip_longest","itertools.pairwise"].contains n=false) (hQ:Q () s):wpAny M A (letOwnedTupleGo tg (.ref it) u) Q E s:=by
 unfold letOwnedTupleGo
 cases tg <;> first
  | exact wpAny_pure hQ
  | (cases u <;> first
    | exact wpAny_pure hQ
    | (refine wpAny_bind (wpAny_load ho ?_)
       rw [hc,hd]
       show wpAny M A (if (["enumerate","zip","dict_itemiterator","dict_reverseitemiterator","odict_iterator","itertools.zip_longest","itertools.pairwise"].contains n && vs[0]? == some (rawInt _))=true then _ else _) Q E s
       rw [if_neg (by intro h;rw [hn,Bool.false_and] at h;cases h)]
       exact wpAny_pure hQ))
def Itl (K:PySem.W.Frag) (a:Addr):It:=
 ⟨fun i H=>∃ xs x,SqL K H a xs∧xs[i]?=some x,fun i H x H'=>H'=H∧∀ xs,SqL K H a xs→xs[i]?=some x,fun i H=>∃ xs,SqL K H a xs∧xs.length≤i⟩
def Itt (K:PySem.W.Frag) (a:Addr):It:=
 ⟨fun i H=>∃ xs x,SqT K H a xs∧xs[i]?=some x,fun i H x H'=>H'=H∧∀ xs,SqT K H a xs→xs[i]?=some x,fun i H=>∃ xs,SqT K H a xs∧xs.length≤i⟩
def Itr (lo:Int) (n:Nat):It:=⟨fun i _=>i < n,fun i H x H'=>H'=H∧x=.int (lo + i),fun i _=>n≤i⟩
theorem turn_list {P:Program} {w:World} {K:PySem.W.Frag} {tg:Expr} (a it:Addr):Turn P w K tg (Itl K a) [it] it (fun i h=>h.IsListIter it a i) where
 mem:=by simp
 obj:=fun i h st b hb=>by
  have e:b=it:=by simpa using hb
  subst e
  obtain ⟨o,e,c,d⟩:=st
  exact ⟨o,e,fun v z=>by rw [d] at z;cases z⟩
 keep:=fun i h h' st k=>st.at fun o e=>k it (by simp) o e
 item:=by
  intro X hP hw hK hc i pins s σ H E I hf st hg
  subst hP hw hK
  obtain ⟨xs,x,hq,hx⟩:=hg
  obtain ⟨its,rv,p,hz⟩:=I.list hq
  obtain ⟨u,hu,ru⟩:=rv.get hx
  obtain ⟨f0,f1,f2,f3,f4,f5⟩:=hf it (by simp)
  refine wpAny_pyNext_list_item st p.isList (x:=u) (by simpa using hu) fun h' st' sb=>?_
  have I1:Inv X pins σ H { s with heap:=h' }:=I.turned (t':=s.toks) (fun b o hb e=>(sb.2 b hb).trans e) f0 f1 f3 f4 f5
  obtain ⟨o,e,c,d⟩:=id st'
  exact ⟨u,rfl,go_of (s:={ s with heap:=h' }) e c d (by decide) ⟨x,H,I1,ru,⟨rfl,fun ys hy=>by rw [I.list_inj hy hq];exact hx⟩,st',fun b hb=>(hf b hb).1⟩⟩
 done:=by
  intro X hP hw hK hc i pins s σ H E I hf st hg
  subst hP hw hK
  obtain ⟨xs,hq,hx⟩:=hg
  obtain ⟨its,rv,p,hz⟩:=I.list hq
  obtain ⟨f0,f1,f2,f3,f4,f5⟩:=hf it (by simp)
  have hl:=rv.length
  exact wpAny_pyNext_list_end (I.ok.hd hc) st p.isList (by simp;omega) fun h' eb=>⟨rfl,I.turned (t':=s.toks) (fun b o hb e=>eb b o hb e) f0 f1 f3 f4 f5⟩
 self:=fun _ _ _ _ _ st h=>wpAny_pyIter_listiter st h
theorem turn_tuple {P:Program} {w:World} {K:PySem.W.Frag} {tg:Expr} (a it:Addr):Turn P w K tg (Itt K a) [it] it (fun i h=>h.IsTupleIter it a i) where
 mem:=by simp
 obj:=fun i h st b hb=>by
  have e:b=it:=by simpa using hb
  subst e
  obtain ⟨o,e,c,d⟩:=st
  exact ⟨o,e,fun v z=>by rw [d] at z;cases z⟩
 keep:=fun i h h' st k=>st.at fun o e=>k it (by simp) o e
 item:=by
  intro X hP hw hK hc i pins s σ H E I hf st hg
  subst hP hw hK
  obtain ⟨xs,x,hq,hx⟩:=hg
  obtain ⟨its,rv,p,hz⟩:=I.tuple hq
  obtain ⟨u,hu,ru⟩:=rv.get hx
  obtain ⟨f0,f1,f2,f3,f4,f5⟩:=hf it (by simp)
  refine wpAny_pyNext_tuple_item st (show s.heap.IsTuple a its.toArray from p) (x:=u) (by simpa using hu) fun h' st' sb=>?_
  have I1:Inv X pins σ H { s with heap:=h' }:=I.turned (t':=s.toks) (fun b o hb e=>(sb.2 b hb).trans e) f0 f1 f3 f4 f5
  obtain ⟨o,e,c,d⟩:=id st'
  exact ⟨u,rfl,go_of (s:={ s with heap:=h' }) e c d (by decide) ⟨x,H,I1,ru,⟨rfl,fun ys hy=>by rw [I.tuple_inj hy hq];exact hx⟩,st',fun b hb=>(hf b hb).1⟩⟩
 done:=by
  intro X hP hw hK hc i pins s σ H E I hf st hg
  subst hP hw hK
  obtain ⟨xs,hq,hx⟩:=hg
  obtain ⟨its,rv,p,hz⟩:=I.tuple hq
  obtain ⟨f0,f1,f2,f3,f4,f5⟩:=hf it (by simp)
  have hl:=rv.length
  exact wpAny_pyNext_tuple_end (I.ok.hd hc) st (show s.heap.IsTuple a its.toArray from p) (by simp;omega) fun h' eb=>⟨rfl,I.turned (t':=s.toks) (fun b o hb e=>eb b o hb e) f0 f1 f3 f4 f5⟩
 self:=fun _ _ _ _ _ st h=>wpAny_pyIter_tupleiter st h
theorem turn_range {P:Program} {w:World} {K:PySem.W.Frag} {tg:Expr} (it:Addr) (lo:Int) (n:Nat):Turn P w K tg (Itr lo n) [it] it (fun i h=>IsRangeIter h it (lo + (i:Nat) * 1) ((n:Int) - (i:Nat)) 1) where
 mem:=by simp
 obj:=fun i h st b hb=>by
  have e:b=it:=by simpa using hb
  subst e
  exact ⟨_,st,fun v z=>by
   have z':Data.fields _=Data.cell v:=z
   cases z'⟩
 keep:=fun i h h' st k=>k it (by simp) _ st
 item:=by
  intro X hP hw hK hc i pins s σ H E I hf st hg
  subst hP hw hK
  obtain ⟨f0,f1,f2,f3,f4,f5⟩:=hf it (by simp)
  have W:=Walks.range (prog:=X.prog) (w:=X.w) (I.ok.hd hc) it lo 1 n
  refine W.item i s _ _ hg st fun v h' tk hv st' kk=>?_
  obtain ⟨t,rfl⟩:=hv
  have I1:Inv X pins σ H { s with heap:=h',toks:=tk }:=I.turned (fun b o hb e=>kk b o (by simpa using hb) e) f0 f1 f3 f4 f5
  refine ⟨_,rfl,go_of (s:={ s with heap:=h',toks:=tk }) (n:="range_iterator") st' rfl rfl (by decide) ⟨.int (lo + i),H,I1,⟨t,?_⟩,⟨rfl,rfl⟩,st',fun b hb=>(hf b hb).1⟩⟩
  rw [Int.mul_one]
 done:=by
  intro X hP hw hK hc i pins s σ H E I hf st hg
  subst hP hw hK
  obtain ⟨f0,f1,f2,f3,f4,f5⟩:=hf it (by simp)
  exact wpAny_pyNext_range_end (I.ok.hd hc) st (by have:n≤i:=hg;omega) fun h' eb=>⟨rfl,I.turned (t':=s.toks) (fun b o hb e=>eb b o hb e) f0 f1 f3 f4 f5⟩
 self:=fun _ _ _ _ _ st h=>wpAny_pyIter_rangeiter st h
end L2
namespace L2
open PySem PySem.Spec PyProof.Rows
section
variable {X:Cx} {tg:Expr}
def iList (K:PySem.W.Frag) (tl:TE):TI:=fun σ H R=>tl σ H fun x H1=>∃ a,x=.ref a∧(∃ xs,SqL K H1 a xs)∧R (Itl K a) H1
def iTup (K:PySem.W.Frag) (tl:TE):TI:=fun σ H R=>tl σ H fun x H1=>∃ a,x=.ref a∧(∃ xs,SqT K H1 a xs)∧R (Itt K a) H1
theorem pi_list {l:Expr} {tl:TE} (hl:PE X l tl):PI X tg l (iList X.K tl):=by
 intro pins s σ H R I h
 refine thn (hl pins s σ H _ I h) fun v s1 ⟨x,H1,I1,r1,q1⟩=>?_
 obtain ⟨a,e,⟨xs,hq⟩,q⟩:=q1
 subst e
 cases r1
 obtain ⟨its,rv,p,hz⟩:=I1.list hq
 refine wpAny_pyIter_list p.isList ?_
 refine ⟨s1.heap.objs.size,[s1.heap.objs.size],_,_,H1,rfl,I1.kept (t':=s1.toks) fun b o e=>Heap.get?_push_of_some _ e,turn_list a _,⟨_,Heap.get?_push_size _ rfl,rfl,rfl⟩,fun b hb=>?_,q⟩
 have e:b=s1.heap.objs.size:=by simpa using hb
 subst e
 exact I1.fpOk (Nat.le_refl _) (I1.hok.fresh (Nat.le_refl _))
theorem pi_tup {l:Expr} {tl:TE} (hl:PE X l tl):PI X tg l (iTup X.K tl):=by
 intro pins s σ H R I h
 refine thn (hl pins s σ H _ I h) fun v s1 ⟨x,H1,I1,r1,q1⟩=>?_
 obtain ⟨a,e,⟨xs,hq⟩,q⟩:=q1
 subst e
 cases r1
 obtain ⟨its,rv,p,hz⟩:=I1.tuple hq
 refine wpAny_pyIter_tuple (show s1.heap.IsTuple a its.toArray from p) ?_
 refine ⟨s1.heap.objs.size,[s1.heap.objs.size],_,_,H1,rfl,I1.kept (t':=s1.toks) fun b o e=>Heap.get?_push_of_some _ e,turn_tuple a _,⟨_,Heap.get?_push_size _ rfl,rfl,rfl⟩,fun b hb=>?_,q⟩
 have e:b=s1.heap.objs.size:=by simpa using hb
 subst e
 exact I1.fpOk (Nat.le_refl _) (I1.hok.fresh (Nat.le_refl _))
theorem range_it {pins:List (Addr × Obj)} {σ:St} {H:Hp} {s:Shared} {R:It→Hp→Prop} {E:Value→Shared→Prop} {lo hi:Int} {t u v:Tok} {tk:Nat} (I:Inv X pins σ H s) (h1:-(2 ^ 62)≤lo) (h2:lo < 2 ^ 62) (h3:-(2 ^ 62)≤hi) (h4:hi < 2 ^ 62)
  (q:R (Itr lo (hi - lo).toNat) H):wpAny (model X.prog X.w) X.A (pyIter (.ref s.heap.objs.size)) (PIE X pins σ tg R) E { s with heap:=s.heap.push { cls:=.type "range",data:=.fields #[.int lo t,.int hi u,.int 1 v] },toks:=tk }:=by
 refine wpAny_pyIter_range (IsRange.new ..) (small_one h1 h2 h3 h4) ?_
 have I1:Inv X pins σ H { s with heap:=s.heap.push { cls:=.type "range",data:=.fields #[.int lo t,.int hi u,.int 1 v] },toks:=tk }:=I.kept fun b o e=>Heap.get?_push_of_some _ e
 refine ⟨(s.heap.push { cls:=.type "range",data:=.fields #[.int lo t,.int hi u,.int 1 v] }).objs.size,[(s.heap.push { cls:=.type "range",data:=.fields #[.int lo t,.int hi u,.int 1 v] }).objs.size],_,_,H,rfl,
  I1.kept (t':=tk) fun b o e=>Heap.get?_push_of_some _ e,turn_range _ lo (hi - lo).toNat,?_,fun b hb=>?_,q⟩
 ·have e1:lo + ((0:Nat):Int) * 1=lo:=by simp
  have e2:(((hi - lo).toNat:Nat):Int) - ((0:Nat):Int)=Builtin.Range.rangeSize lo hi 1:=by rw [rangeSize_one];split <;> omega
  show IsRangeIter _ _ (lo + ((0:Nat):Int) * 1) ((((hi - lo).toNat:Nat):Int) - ((0:Nat):Int)) 1
  rw [e1,e2]
  exact Heap.get?_push_size _ rfl
 ·have e:b=(s.heap.push { cls:=.type "range",data:=.fields #[.int lo t,.int hi u,.int 1 v] }).objs.size:=by simpa using hb
  subst e
  exact I1.fpOk (Nat.le_refl _) (I1.hok.fresh (Nat.le_refl _))
def iRng1 (ta:TA):TI:=fun σ H R=>ta σ H fun vs H1=>∃ j:Int,vs=[.int j]∧-(2 ^ 62)≤j∧j < 2 ^ 62∧R (Itr 0 j.toNat) H1
def iRng2 (ta:TA):TI:=fun σ H R=>ta σ H fun vs H1=>∃ i j:Int,vs=[.int i,.int j]∧(-(2 ^ 62)≤i∧i < 2 ^ 62∧-(2 ^ 62)≤j∧j < 2 ^ 62)∧R (Itr i (j - i).toNat) H1
theorem pi_range1 {a:Expr} {ta:TA} {p pos:Pos} (hg:Gl X "range") (hm:X.mg "range" = none) (ha:PA X [a] ta) (hs:starEach [a] X.env=[(false,eval a X.env)]:=by rfl):PI X tg (.Call (.Name "range" p) [a] [] pos) (iRng1 ta):=by
 intro pins s σ H R I h
 refine Call_ (ld_blt I hg hm boot_range (PyProof.Rows.callWith_type1 (thn (ha pos pins s σ H _ I h) fun us s1 ⟨vs,H1,I1,r1,q1⟩=>?_) hs rfl))
 obtain ⟨j,e,q1,q2,q⟩:=q1
 subst e
 cases r1 with
 | cons r rr=>
  cases rr
  obtain ⟨t,rfl⟩:=r
  exact call_range_1 (range_it I1 (by omega) (by omega) q1 q2 (by simpa using q))
def tFor (wi:TI) (g:TG) (tb:TS):TS:=fun D σ H=>wi σ H fun J H1=>∃ W:Nat→Nat→St→Hp→Prop,(∃ m,W 0 m σ H1)∧∀ i m σ H,W i m σ H →
 (J.stop i H∧D.nx σ H)∨(J.go i H∧∃ N:St→Hp→Prop,(∀ σ' H',N σ' H'→∃ m',m' < m∧W (i + 1) m' σ' H')∧∀ x H',J.yld i H x H'→g x σ H' fun σ2 H2=>tb { D with nx:=N,ct:=N,bk:=D.nx } σ2 H2)
def pinsAt (fp:List Addr) (h:Heap):List (Addr × Obj):=fp.filterMap fun b=>(h.get? b).map fun o=>(b,o)
theorem mem_pinsAt {fp:List Addr} {h:Heap} {b:Addr} {o:Obj} (hb:b∈fp) (e:h.get? b=some o):(b,o)∈pinsAt fp h:=List.mem_filterMap.mpr ⟨b,hb,by rw [e];rfl⟩
theorem of_pinsAt {fp:List Addr} {h:Heap} {p:Addr × Obj} (hp:p∈pinsAt fp h):p.1∈fp∧h.get? p.1=some p.2:=by
 obtain ⟨b,hb,e⟩:=List.mem_filterMap.mp hp
 cases q:h.get? b with
 | none=>rw [q] at e;cases e
 | some o=>
  rw [q] at e
  have e':(b,o)=p:=Option.some.inj e
  subst e'
  exact ⟨hb,q⟩
theorem Inv.pinned {pins:List (Addr × Obj)} {σ:St} {H:Hp} {s:Shared} {fp:List Addr} (I:Inv X pins σ H s) (hf:∀ b∈fp,FpOk X pins H b) (ho:∀ b∈fp,∃ o,s.heap.get? b=some o∧∀ v,o.data≠.cell v):Inv X (pins ++ pinsAt fp s.heap) σ H s:=
 I.pins_of fun p hp=>(List.mem_append.mp hp).elim (fun z=>I.pin p (List.mem_append_right _ z)) fun z=>by
  obtain ⟨hb,e⟩:=of_pinsAt z
  obtain ⟨f0,f1,f2,_⟩:=hf p.1 hb
  obtain ⟨o,e',d⟩:=ho p.1 hb
  rw [e] at e';cases e'
  exact ⟨e,f0,f1,f2,d⟩
theorem Inv.unpinned {pins pl:List (Addr × Obj)} {σ:St} {H:Hp} {s:Shared} (I:Inv X (pins ++ pl) σ H s):Inv X pins σ H s:=I.pins_of fun p hp=>I.pin p (List.mem_append_right _ (List.mem_append_left _ hp))
theorem ps_for {iter:Expr} {body:List Stmt} {wi:TI} {g:TG} {tb:TS} {pos:Pos} (hp:PassesOwn (model X.prog X.w) X.A X.env X.xe) (hc:X.calm=true) (hi:PI X tg iter wi) (hg:PG X tg g) (hb:PSs X body tb)
  (hs:∀ x,foldedSetIterable iter X.env x=pure x:=by intro _;rfl):PS X (.For tg iter body [] pos) (tFor wi g tb):=by
 intro pins s σ H D I h
 refine wpAny_For (thn (hi pins s σ H _ I h) fun v s1 h1=>thn h1 fun itv s2 h2=>?_) hs
 obtain ⟨it,fp,tn,J,H2,e,I2,T,st2,f2,W,⟨m0,w0⟩,turn⟩:=h2
 subst e
 -- what stays true of the iterator's objects through the loop
 have stat:∀ {H':Hp},(∀ b∈fp,H' b=none)→∀ b∈fp,FpOk X pins H' b:=fun hn b hb=>⟨hn b hb,(f2 b hb).2⟩
 refine codeAny_forLoop_any (fun n s'=>∃ i σ' H',Inv X pins σ' H' s'∧tn i s'.heap∧(∀ b∈fp,H' b=none)∧W i n σ' H') ?_ m0 ⟨0,σ,H2,I2,st2,fun b hb=>(f2 b hb).1,w0⟩
 rintro n s3 ⟨i,σ3,H3,I3,st3,fr3,w3⟩
 rcases turn i n σ3 H3 w3 with ⟨stop,qn⟩ | ⟨go,N,hN,step⟩
 ·refine wpAny_passesOwn hp (thn (T.done X rfl rfl rfl hc i pins s3 σ3 H3 X.xe I3 (stat fr3) st3 stop) fun r s4 ⟨hr,I4⟩=>?_)
  subst hr
  exact wpAny_execs_nil ⟨σ3,H3,I4,qn⟩
 ·refine wpAny_passesOwn hp (thn (T.item X rfl rfl rfl hc i pins s3 σ3 H3 X.xe I3 (stat fr3) st3 go) fun r s4 ⟨u,hr,h4⟩=>?_)
  subst hr
  refine wpAny_passesOwn hp (thn h4 fun _ s5 ⟨x,H5,I5,r5,y5,st5,fr5⟩=>?_)
  have I5':=I5.pinned (stat fr5) (T.obj _ _ st5)
  refine wpAny_passesOwn hp (thn (hg _ s5 σ3 H5 x u _ I5' r5 (step x H5 y5)) fun _ s6 ⟨σ6,H6,I6,q6⟩=>?_)
  refine wpAny_passesOwn hp (thn (hb _ s6 σ6 H6 _ I6 q6) fun f s7 q7=>?_)
  have again:∀ {σ7:St} {H7:Hp},Inv X (pins ++ pinsAt fp s5.heap) σ7 H7 s7→N σ7 H7→∃ m,m < n∧∃ i σ' H',Inv X pins σ' H' s7∧tn i s7.heap∧(∀ b∈fp,H' b=none)∧W i m σ' H':=fun {σ7 H7} I7 n7=>by
   obtain ⟨m',hm,w7⟩:=hN σ7 H7 n7
   refine ⟨m',hm,i + 1,σ7,H7,I7.unpinned,T.keep _ _ _ st5 fun b hb o e=>(I7.pin (b,o) (List.mem_append_right _ (List.mem_append_right _ (mem_pinsAt hb e)))).1,fun b hb=>?_,w7⟩
   obtain ⟨o,e,d⟩:=T.obj _ _ st5 b hb
   exact (I7.pin (b,o) (List.mem_append_right _ (List.mem_append_right _ (mem_pinsAt hb e)))).2.1
  cases f with
  | next=>obtain ⟨σ7,H7,I7,n7⟩:=q7;exact again I7 n7
  | cont=>obtain ⟨σ7,H7,I7,n7⟩:=q7;exact again I7 n7
  | brk=>obtain ⟨σ7,H7,I7,q7⟩:=q7;exact ⟨σ7,H7,I7.unpinned,q7⟩
  | ret v=>obtain ⟨x7,σ7,H7,I7,r7,q7⟩:=q7;exact ⟨x7,σ7,H7,I7.unpinned,r7,q7⟩
end
theorem for_list {K:PySem.W.Frag} {a:Addr} {xs:List V} {g:TG} {tb:TS} {D:Ends} {σ:St} {H:Hp} (Pv:Nat→St→Hp→Prop) (h0:Pv 0 σ H) (hl:∀ i σ H,i≤xs.length→Pv i σ H→SqL K H a xs)
  (hs:∀ i x σ H,xs[i]?=some x→Pv i σ H→g x σ H fun σ2 H2=>tb { D with nx:=Pv (i + 1),ct:=Pv (i + 1),bk:=D.nx } σ2 H2) (hd:∀ σ H,Pv xs.length σ H→D.nx σ H) :
  ∃ W:Nat→Nat→St→Hp→Prop,(∃ m,W 0 m σ H)∧∀ i m σ H,W i m σ H →
   ((Itl K a).stop i H∧D.nx σ H)∨((Itl K a).go i H∧∃ N:St→Hp→Prop,(∀ σ' H',N σ' H'→∃ m',m' < m∧W (i + 1) m' σ' H')∧∀ x H',(Itl K a).yld i H x H'→g x σ H' fun σ2 H2=>tb { D with nx:=N,ct:=N,bk:=D.nx } σ2 H2):=by
 refine ⟨fun i m σ H=>m=xs.length - i∧i≤xs.length∧Pv i σ H,⟨xs.length,by simp,Nat.zero_le _,h0⟩,?_⟩
 rintro i m σ H ⟨rfl,hi,p⟩
 have q:=hl i σ H hi p
 by_cases hlt:i < xs.length
 ·refine .inr ⟨⟨xs,xs[i],q,by simp [hlt]⟩,Pv (i + 1),fun σ' H' p'=>⟨xs.length - (i + 1),by omega,rfl,hlt,p'⟩,fun x H' y=>?_⟩
  obtain ⟨e,y⟩:=y
  subst e
  exact hs i x σ _ (y xs q) p
 ·have e:i=xs.length:=by omega
  subst e
  exact .inl ⟨⟨xs,q,Nat.le_refl _⟩,hd σ H p⟩
theorem for_tup {K:PySem.W.Frag} {a:Addr} {xs:List V} {g:TG} {tb:TS} {D:Ends} {σ:St} {H:Hp} (Pv:Nat→St→Hp→Prop) (h0:Pv 0 σ H) (hl:∀ i σ H,i≤xs.length→Pv i σ H→SqT K H a xs)
  (hs:∀ i x σ H,xs[i]?=some x→Pv i σ H→g x σ H fun σ2 H2=>tb { D with nx:=Pv (i + 1),ct:=Pv (i + 1),bk:=D.nx } σ2 H2) (hd:∀ σ H,Pv xs.length σ H→D.nx σ H) :
  ∃ W:Nat→Nat→St→Hp→Prop,(∃ m,W 0 m σ H)∧∀ i m σ H,W i m σ H →
   ((Itt K a).stop i H∧D.nx σ H)∨((Itt K a).go i H∧∃ N:St→Hp→Prop,(∀ σ' H',N σ' H'→∃ m',m' < m∧W (i + 1) m' σ' H')∧∀ x H',(Itt K a).yld i H x H'→g x σ H' fun σ2 H2=>tb { D with nx:=N,ct:=N,bk:=D.nx } σ2 H2):=by
 refine ⟨fun i m σ H=>m=xs.length - i∧i≤xs.length∧Pv i σ H,⟨xs.length,by simp,Nat.zero_le _,h0⟩,?_⟩
 rintro i m σ H ⟨rfl,hi,p⟩
 have q:=hl i σ H hi p
 by_cases hlt:i < xs.length
 ·refine .inr ⟨⟨xs,xs[i],q,by simp [hlt]⟩,Pv (i + 1),fun σ' H' p'=>⟨xs.length - (i + 1),by omega,rfl,hlt,p'⟩,fun x H' y=>?_⟩
  obtain ⟨e,y⟩:=y
  subst e
  exact hs i x σ _ (y xs q) p
 ·have e:i=xs.length:=by omega
  subst e
  exact .inl ⟨⟨xs,q,Nat.le_refl _⟩,hd σ H p⟩
theorem for_range {lo:Int} {n:Nat} {g:TG} {tb:TS} {D:Ends} {σ:St} {H:Hp} (Pv:Nat→St→Hp→Prop) (h0:Pv 0 σ H)
  (hs:∀ i σ H,i < n→Pv i σ H→g (.int (lo + i)) σ H fun σ2 H2=>tb { D with nx:=Pv (i + 1),ct:=Pv (i + 1),bk:=D.nx } σ2 H2) (hd:∀ σ H,Pv n σ H→D.nx σ H) :
  ∃ W:Nat→Nat→St→Hp→Prop,(∃ m,W 0 m σ H)∧∀ i m σ H,W i m σ H →
   ((Itr lo n).stop i H∧D.nx σ H)∨((Itr lo n).go i H∧∃ N:St→Hp→Prop,(∀ σ' H',N σ' H'→∃ m',m' < m∧W (i + 1) m' σ' H')∧∀ x H',(Itr lo n).yld i H x H'→g x σ H' fun σ2 H2=>tb { D with nx:=N,ct:=N,bk:=D.nx } σ2 H2):=by
 refine ⟨fun i m σ H=>m=n - i∧i≤n∧Pv i σ H,⟨n,by simp,Nat.zero_le _,h0⟩,?_⟩
 rintro i m σ H ⟨rfl,hi,p⟩
 by_cases hlt:i < n
 ·refine .inr ⟨hlt,Pv (i + 1),fun σ' H' p'=>⟨n - (i + 1),by omega,rfl,hlt,p'⟩,fun x H' y=>?_⟩
  obtain ⟨e,y⟩:=y
  subst e y
  exact hs i σ _ hlt p
 ·have e:i=n:=by omega
  subst e
  exact .inl ⟨Nat.le_refl _,hd σ H p⟩
end L2
namespace L2
open PySem PySem.Spec PyProof.Rows
abbrev R2:=V→V→Hp→VK→Prop
def OpR (X:Cx) (f:Value→Value→Sem Value) (r:R2):Prop:=
 ∀ (pins:List (Addr × Obj)) (s:Shared) (σ:St) (H:Hp) (x y:V) (v u:Value) (Q:VK),Inv X pins σ H s→RelV x v→RelV y u→r x y H Q →
  wpAny (model X.prog X.w) X.A (f v u) (EP X pins σ Q) X.xe s
def UnR (X:Cx) (f:Value→Sem Value) (r:V→Hp→VK→Prop):Prop:=
 ∀ (pins:List (Addr × Obj)) (s:Shared) (σ:St) (H:Hp) (x:V) (v:Value) (Q:VK),Inv X pins σ H s→RelV x v→r x H Q →
  wpAny (model X.prog X.w) X.A (f v) (EP X pins σ Q) X.xe s
def CallR (X:Cx) (f:Value) (r:List V→Hp→VK→Prop):Prop:=
 ∀ (pins:List (Addr × Obj)) (s:Shared) (σ:St) (H:Hp) (xs:List V) (us:List Value) (Q:VK),Inv X pins σ H s→Vals xs us→r xs H Q →
  wpAny (model X.prog X.w) X.A (call f us) (EP X pins σ Q) X.xe s
def tOp (r:R2) (ta tb:TE):TE:=fun σ H Q=>ta σ H fun x H1=>tb σ H1 fun y H2=>r x y H2 Q
def tUn (r:V→Hp→VK→Prop) (ta:TE):TE:=fun σ H Q=>ta σ H fun x H1=>r x H1 Q
def rI (C:Int→Int→Prop) (g:Int→Int→V):R2:=fun x y H Q=>∃ i j,x=.int i∧y=.int j∧C i j∧Q (g i j) H
def rI0 (g:Int→Int→V):R2:=fun x y H Q=>∃ i j,x=.int i∧y=.int j∧Q (g i j) H
def rU (g:Int→V):V→Hp→VK→Prop:=fun x H Q=>∃ i,x=.int i∧Q (g i) H
section
variable {X:Cx} {a b c:Expr} {ta tb tc:TE} {pos:Pos}
theorem binT (ha:PE X a ta) (hb:PE X b tb) {pins:List (Addr × Obj)} {s:Shared} {σ:St} {H:Hp} {R:V→V→Hp→Prop} (I:Inv X pins σ H s)
  (h:ta σ H fun x H1=>tb σ H1 fun y H2=>R x y H2) {Q:Value→Shared→Prop} {f:Value→Value→Sem Value}
  (hf:∀ v u s2 x y H2,Inv X pins σ H2 s2→RelV x v→RelV y u→R x y H2→wpAny (model X.prog X.w) X.A (f v u) Q X.xe s2) :
  wpAny (model X.prog X.w) X.A (eval a X.env) (fun v s₁=>wpAny (model X.prog X.w) X.A (eval b X.env) (fun u s₂=>wpAny (model X.prog X.w) X.A (f v u) Q X.xe s₂) X.xe s₁) X.xe s:=by
 refine thn (ha pins s σ H _ I h) fun v s1 ⟨x,H1,I1,r1,q1⟩=>?_
 refine thn (hb pins s1 σ H1 _ I1 q1) fun u s2 ⟨y,H2,I2,r2,q2⟩=>?_
 exact hf v u s2 x y H2 I2 r1 r2 q2
theorem pe_op {op:Operator} {r:R2} (ho:OpR X (binaryOp op) r) (ha:PE X a ta) (hb:PE X b tb):PE X (.BinOp a op b pos) (tOp r ta tb):=by
 intro pins s σ H Q I h
 exact wpAny_BinOp (binT ha hb I h fun v u s2 x y H2 I2 rx ry q=>ho pins s2 σ H2 x y v u Q I2 rx ry q)
theorem pe_un {op:UnaryOp} {r:V→Hp→VK→Prop} (ho:UnR X (unaryOp op) r) (ha:PE X a ta):PE X (.UnaryOp op a pos) (tUn r ta):=by
 intro pins s σ H Q I h
 exact UnaryOp_ (thn (ha pins s σ H _ I h) fun v s1 ⟨x,H1,I1,r1,q1⟩=>ho pins s1 σ H1 x v Q I1 r1 q1)
theorem opI {f:Value→Value→Sem Value} {C:Int→Int→Prop} {g:Int→Int→Int}
  (rule:∀ (i j:Int) (t u:Tok) (s:Shared) (Q:Value→Shared→Prop) (E:Value→Shared→Prop),C i j→Q (.int (g i j) s.toks) { s with toks:=s.toks + 1 }→wpAny (model X.prog X.w) X.A (f (.int i t) (.int j u)) Q E s) :
  OpR X f (rI C fun i j=>.int (g i j)):=by
 intro pins s σ H x y v u Q I rx ry h
 obtain ⟨i,j,rfl,rfl,hc,q⟩:=h
 obtain ⟨t,rfl⟩:=rx
 obtain ⟨t',rfl⟩:=ry
 exact rule i j t t' s _ _ hc ⟨.int (g i j),H,I.tok _,⟨_,rfl⟩,q⟩
theorem opI0 {f:Value→Value→Sem Value} {g:Int→Int→Int}
  (rule:∀ (i j:Int) (t u:Tok) (s:Shared) (Q:Value→Shared→Prop) (E:Value→Shared→Prop),Q (.int (g i j) s.toks) { s with toks:=s.toks + 1 }→wpAny (model X.prog X.w) X.A (f (.int i t) (.int j u)) Q E s) :
  OpR X f (rI0 fun i j=>.int (g i j)):=by
 intro pins s σ H x y v u Q I rx ry h
 obtain ⟨i,j,rfl,rfl,q⟩:=h
 obtain ⟨t,rfl⟩:=rx
 obtain ⟨t',rfl⟩:=ry
 exact rule i j t t' s _ _ ⟨.int (g i j),H,I.tok _,⟨_,rfl⟩,q⟩
theorem opB0 {f:Value→Value→Sem Value} {g:Int→Int→Bool}
  (rule:∀ (i j:Int) (t u:Tok) (s:Shared) (Q:Value→Shared→Prop) (E:Value→Shared→Prop),Q (.bool (g i j)) s→wpAny (model X.prog X.w) X.A (f (.int i t) (.int j u)) Q E s) :
  OpR X f (rI0 fun i j=>.bl (g i j)):=by
 intro pins s σ H x y v u Q I rx ry h
 obtain ⟨i,j,rfl,rfl,q⟩:=h
 obtain ⟨t,rfl⟩:=rx
 obtain ⟨t',rfl⟩:=ry
 exact rule i j t t' s _ _ ⟨.bl (g i j),H,I,rfl,q⟩
def CMul (i j:Int):Prop:=(-(2 ^ 64) < i∧i < 2 ^ 64)∨(-(2 ^ 64) < j∧j < 2 ^ 64)
theorem CMul.ok {i j:Int} (h:CMul i j):IntMulOk i j:=by
 rcases h with ⟨h1,h2⟩ | ⟨h1,h2⟩
 ·exact .of_left (intBits_le_64 h1 h2)
 ·exact .of_right (intBits_le_64 h1 h2)
theorem op_add:OpR X (binaryOp .Add) (rI0 fun i j=>.int (i + j)):=opI0 fun _ _ _ _ _ _ _ q=>add_int q
theorem op_sub:OpR X (binaryOp .Sub) (rI0 fun i j=>.int (i - j)):=opI0 fun _ _ _ _ _ _ _ q=>sub_int q
theorem op_mul:OpR X (binaryOp .Mult) (rI CMul fun i j=>.int (i * j)):=opI fun _ _ _ _ _ _ _ hc q=>mul_int q hc.ok
theorem op_mod:OpR X (binaryOp .Mod) (rI (fun _ j=>0 < j) fun i j=>.int (i % j)):=opI fun i j _ _ _ _ _ hc q=>by
 have h1:(0:Int) < j:=hc
 exact mod_int' (by omega) (by rw [Int.fmod_eq_emod_of_nonneg i (by omega)];exact q)
theorem unI {f:Value→Sem Value} {g:Int→Int}
  (rule:∀ (i:Int) (t:Tok) (s:Shared) (Q:Value→Shared→Prop) (E:Value→Shared→Prop),Q (.int (g i) s.toks) { s with toks:=s.toks + 1 }→wpAny (model X.prog X.w) X.A (f (.int i t)) Q E s) :
  UnR X f (rU fun i=>.int (g i)):=by
 intro pins s σ H x v Q I rx h
 obtain ⟨i,rfl,q⟩:=h
 obtain ⟨t,rfl⟩:=rx
 exact rule i t s _ _ ⟨.int (g i),H,I.tok _,⟨_,rfl⟩,q⟩
theorem un_neg:UnR X (unaryOp .USub) (rU fun i=>.int (-i)):=unI fun _ _ _ _ _ q=>neg_int q
end
def scal:V→V→Bool
 | .non,.non=>true | .non,.int _=>true | .int _,.non=>true | .non,.bl _=>true | .bl _,.non=>true | .non,.str _=>true | .str _,.non=>true
 | .int _,.int _=>true | .bl _,.bl _=>true | .str _,.str _=>true | .byt _,.byt _=>true
 | .int _,.str _=>true | .str _,.int _=>true | .bl _,.str _=>true | .str _,.bl _=>true
 | _,_=>false
def rEq:R2:=fun x y H Q=>scal x y=true∧Q (.bl (decide (x=y))) H
def rNe:R2:=fun x y H Q=>scal x y=true∧Q (.bl (!decide (x=y))) H
theorem dec_int {i j:Int}:decide (V.int i=V.int j)=(i == j):=by
 rw [Bool.eq_iff_iff]
 simp
theorem dec_bl {i j:Bool}:decide (V.bl i=V.bl j)=(i == j):=by
 rw [Bool.eq_iff_iff]
 simp
theorem dec_str {i j:Str}:decide (V.str i=V.str j)=(i == j):=by
 rw [Bool.eq_iff_iff]
 simp
theorem dec_byt {i j:Array UInt8}:decide (V.byt i=V.byt j)=(i.toList == j.toList):=by
 rw [Bool.eq_iff_iff]
 cases i
 cases j
 simp
section
variable {X:Cx} {a b c:Expr} {ta tb tc:TE} {pos:Pos}
theorem fin_bl {pins:List (Addr × Obj)} {σ:St} {H:Hp} {s:Shared} {Q:VK} {k k':Bool} (I:Inv X pins σ H s) (q:Q (.bl k) H) (e:k=k'):EP X pins σ Q (.bool k') s:=by
 subst e
 exact ⟨.bl k,H,I,rfl,q⟩
theorem op_eq:OpR X (compareOp .Eq) rEq:=by
 intro pins s σ H x y v u Q I rx ry h
 obtain ⟨hs,q⟩:=h
 cases x with
 | non=>
  cases rx
  cases y with
  | non=>cases ry;exact PySem.EqNone.eq_none_none (fin_bl I q (by simp))
  | bl j=>cases ry;exact PySem.EqNone.eq_none_bool (fin_bl I q (by simp))
  | int j=>obtain ⟨t',rfl⟩:=ry;exact PySem.EqNone.eq_none_int (fin_bl I q (by simp))
  | str j=>obtain ⟨t',rfl⟩:=ry;exact PySem.EqNone.eq_none_str (fin_bl I q (by simp))
  | _=>exact absurd (show false=true from hs) Bool.false_ne_true
 | bl i=>
  cases rx
  cases y with
  | non=>cases ry;exact PySem.EqNone.eq_bool_none (fin_bl I q (by simp))
  | bl j=>cases ry;exact eq_bool (fin_bl I q dec_bl)
  | str j=>obtain ⟨t',rfl⟩:=ry;exact PySem.EqMixed.eq_bool_str (fin_bl I q (by simp))
  | _=>exact absurd (show false=true from hs) Bool.false_ne_true
 | int i=>
  obtain ⟨t,rfl⟩:=rx
  cases y with
  | non=>cases ry;exact PySem.EqNone.eq_int_none (fin_bl I q (by simp))
  | int j=>obtain ⟨t',rfl⟩:=ry;exact eq_int (fin_bl I q dec_int)
  | str j=>obtain ⟨t',rfl⟩:=ry;exact PySem.EqMixed.eq_int_str (fin_bl I q (by simp))
  | _=>exact absurd (show false=true from hs) Bool.false_ne_true
 | str i=>
  obtain ⟨t,rfl⟩:=rx
  cases y with
  | non=>cases ry;exact PySem.EqNone.eq_str_none (fin_bl I q (by simp))
  | bl j=>cases ry;exact PySem.EqMixed.eq_str_bool (fin_bl I q (by simp))
  | int j=>obtain ⟨t',rfl⟩:=ry;exact PySem.EqMixed.eq_str_int (fin_bl I q (by simp))
  | str j=>obtain ⟨t',rfl⟩:=ry;exact eq_str (fin_bl I q dec_str)
  | _=>exact absurd (show false=true from hs) Bool.false_ne_true
 | byt i=>
  obtain ⟨t,rfl⟩:=rx
  cases y with
  | byt j=>obtain ⟨t',rfl⟩:=ry;exact PySem.W.eq_bytes (fin_bl I q dec_byt)
  | _=>exact absurd (show false=true from hs) Bool.false_ne_true
 | _=>cases y <;> exact absurd (show false=true from hs) Bool.false_ne_true
theorem op_ne:OpR X (compareOp .NotEq) rNe:=by
 intro pins s σ H x y v u Q I rx ry h
 obtain ⟨hs,q⟩:=h
 cases x with
 | non=>
  cases rx
  cases y with
  | non=>cases ry;exact PySem.EqNone.ne_none_none (fin_bl I q (by simp))
  | bl j=>cases ry;exact PySem.EqNone.ne_none_bool (fin_bl I q (by simp))
  | int j=>obtain ⟨t',rfl⟩:=ry;exact PySem.EqNone.ne_none_int (fin_bl I q (by simp))
  | str j=>obtain ⟨t',rfl⟩:=ry;exact PySem.EqNone.ne_none_str (fin_bl I q (by simp))
  | _=>exact absurd (show false=true from hs) Bool.false_ne_true
 | bl i=>
  cases rx
  cases y with
  | non=>cases ry;exact PySem.EqNone.ne_bool_none (fin_bl I q (by simp))
  | bl j=>cases ry;exact ne_bool (fin_bl I q (congrArg not dec_bl))
  | str j=>obtain ⟨t',rfl⟩:=ry;exact PySem.EqMixed.ne_bool_str (fin_bl I q (by simp))
  | _=>exact absurd (show false=true from hs) Bool.false_ne_true
 | int i=>
  obtain ⟨t,rfl⟩:=rx
  cases y with
  | non=>cases ry;exact PySem.EqNone.ne_int_none (fin_bl I q (by simp))
  | int j=>obtain ⟨t',rfl⟩:=ry;exact ne_int (fin_bl I q (congrArg not dec_int))
  | str j=>obtain ⟨t',rfl⟩:=ry;exact PySem.EqMixed.ne_int_str (fin_bl I q (by simp))
  | _=>exact absurd (show false=true from hs) Bool.false_ne_true
 | str i=>
  obtain ⟨t,rfl⟩:=rx
  cases y with
  | non=>cases ry;exact PySem.EqNone.ne_str_none (fin_bl I q (by simp))
  | bl j=>cases ry;exact PySem.EqMixed.ne_str_bool (fin_bl I q (by simp))
  | int j=>obtain ⟨t',rfl⟩:=ry;exact PySem.EqMixed.ne_str_int (fin_bl I q (by simp))
  | str j=>obtain ⟨t',rfl⟩:=ry;exact ne_str (fin_bl I q (congrArg not dec_str))
  | _=>exact absurd (show false=true from hs) Bool.false_ne_true
 | byt i=>
  obtain ⟨t,rfl⟩:=rx
  cases y with
  | byt j=>obtain ⟨t',rfl⟩:=ry;exact PySem.W.ne_bytes (fin_bl I q (congrArg not dec_byt))
  | _=>exact absurd (show false=true from hs) Bool.false_ne_true
 | _=>cases y <;> exact absurd (show false=true from hs) Bool.false_ne_true
theorem op_lt:OpR X (compareOp .Lt) (rI0 fun i j=>.bl (decide (i < j))):=opB0 fun _ _ _ _ _ _ _ q=>lt_int q
theorem op_le:OpR X (compareOp .LtE) (rI0 fun i j=>.bl (decide (i≤j))):=opB0 fun _ _ _ _ _ _ _ q=>le_int q
theorem op_gt:OpR X (compareOp .Gt) (rI0 fun i j=>.bl (decide (j < i))):=opB0 fun _ _ _ _ _ _ _ q=>gt_int q
theorem op_ge:OpR X (compareOp .GtE) (rI0 fun i j=>.bl (decide (j≤i))):=opB0 fun _ _ _ _ _ _ _ q=>ge_int q
theorem op_in_str:OpR X (compareOp .In) (fun x y H Q=>∃ i j,x=.str i∧y=.str j∧Q (.bl (!(Builtin.Str.occurrences j i 0 j.length 1).isEmpty)) H):=by
 intro pins s σ H x y v u Q I rx ry h
 obtain ⟨i,j,rfl,rfl,q⟩:=h
 obtain ⟨t,rfl⟩:=rx
 obtain ⟨t',rfl⟩:=ry
 exact in_str (fin_bl I q rfl)
theorem op_isN:OpR X (compareOp .Is) (fun x y H Q=>y=.non∧Q (.bl (decide (x=.non))) H):=by
 intro pins s σ H x y v u Q I rx ry h
 obtain ⟨rfl,q⟩:=h
 cases ry
 refine is_none_gen (fin_bl I q ?_)
 cases x <;> first
  | (cases rx;rfl)
  | (obtain ⟨t,rfl⟩:=rx;rfl)
theorem op_notN:OpR X (compareOp .IsNot) (fun x y H Q=>y=.non∧Q (.bl (!decide (x=.non))) H):=by
 intro pins s σ H x y v u Q I rx ry h
 obtain ⟨rfl,q⟩:=h
 cases ry
 refine isnot_none_gen (fin_bl I q ?_)
 cases x <;> first
  | (cases rx;rfl)
  | (obtain ⟨t,rfl⟩:=rx;rfl)
theorem op_notin_str:OpR X (compareOp .NotIn) (fun x y H Q=>∃ i j,x=.str i∧y=.str j∧Q (.bl (!(!(Builtin.Str.occurrences j i 0 j.length 1).isEmpty))) H):=by
 intro pins s σ H x y v u Q I rx ry h
 obtain ⟨i,j,rfl,rfl,q⟩:=h
 obtain ⟨t,rfl⟩:=rx
 obtain ⟨t',rfl⟩:=ry
 exact notIn_str (fin_bl I q rfl)
theorem OpR.or {f:Value→Value→Sem Value} {r r':R2} (h:OpR X f r) (h':OpR X f r'):OpR X f (fun x y H Q=>r x y H Q∨r' x y H Q):=by
 intro pins s σ H x y v u Q I rx ry q
 rcases q with q | q
 ·exact h pins s σ H x y v u Q I rx ry q
 ·exact h' pins s σ H x y v u Q I rx ry q
theorem nomark (b:Expr) {op:CmpOp} (h:op≠.In:=by decide) (h2:op≠.NotIn:=by decide):behindInMarks op b=false:=by
 have e1:(op == CmpOp.In)=false:=by cases op <;> first | rfl | exact absurd rfl h
 have e2:(op == CmpOp.NotIn)=false:=by cases op <;> first | rfl | exact absurd rfl h2
 cases b <;> simp [behindInMarks,e1,e2]
theorem pe_cmpR {op:CmpOp} {r:R2} (ho:OpR X (compareOp op) r) (ha:PE X a ta) (hb:PE X b tb) (hm:behindInMarks op b=false):PE X (.Compare a [op] [b] pos) (tOp r ta tb):=by
 intro pins s σ H Q I h
 exact wpAny_Compare1 (binT ha hb I h fun v u s2 x y H2 I2 rx ry q=>ho pins s2 σ H2 x y v u Q I2 rx ry q) hm
def tTest (t:TE):TT:=fun σ H Q=>t σ H fun x H'=>∃ k,x=.bl k∧Q k H'
theorem pt_cmpR {op:CmpOp} {r:R2} (ho:OpR X (compareOp op) r) (ha:PE X a ta) (hb:PE X b tb) (hm:behindInMarks op b=false):PT X (.Compare a [op] [b] pos) (tTest (tOp r ta tb)):=by
 intro pins s σ H Q I h
 refine wpAny_isTrue_Compare1 (thn (ha pins s σ H _ I h) fun v s1 ⟨x,H1,I1,r1,q1⟩=>thn (hb pins s1 σ H1 _ I1 q1) fun u s2 ⟨y,H2,I2,r2,q2⟩=>
  thn (ho pins s2 σ H2 x y v u _ I2 r1 r2 q2) fun c s3 ⟨z,H3,I3,r3,k,e,q3⟩=>?_) hm
 subst e
 cases r3
 exact wpAny_truthy_bool ⟨H3,I3,q3⟩
def tChain (r r':R2) (ta tb tc:TE):TE:=fun σ H Q=>ta σ H fun x H1=>tb σ H1 fun y H2=>r x y H2 fun z H3=>∃ k,z=.bl k ∧
 (if k=true then tc σ H3 fun w' H4=>r' y w' H4 Q else Q (.bl false) H3)
theorem pe_chain {op op':CmpOp} {r r':R2} (ho:OpR X (compareOp op) r) (ho':OpR X (compareOp op') r') (ha:PE X a ta) (hb:PE X b tb) (hc:PE X c tc)
  (hm:lastMarks [op,op'] [b,c]=false:=by with_unfolding_all rfl):PE X (.Compare a [op,op'] [b,c] pos) (tChain r r' ta tb tc):=by
 intro pins s σ H Q I h
 refine Compare_chain (thn (ha pins s σ H _ I h) fun v s1 ⟨x,H1,I1,r1,q1⟩=>chain_link (thn (hb pins s1 σ H1 _ I1 q1) fun u s2 ⟨y,H2,I2,r2,q2⟩=>
  thn (ho pins s2 σ H2 x y v u _ I2 r1 r2 q2) fun d s3 ⟨z,H3,I3,r3,k,e,q3⟩=>?_)) hm
 subst e
 cases r3
 refine wpAny_truthy_bool ?_
 cases k with
 | false=>exact ite_ff ⟨.bl false,H3,I3,rfl,q3⟩
 | true=>exact ite_tt (chain_last (thn (hc pins s3 σ H3 _ I3 q3) fun w' s4 ⟨z',H4,I4,r4,q4⟩=>ho' pins s4 σ H4 y z' u w' Q I4 r2 r4 q4))
theorem line63:(sizeLine:Nat) < 2 ^ 63:=by rw [sizeLine_eq];decide
theorem op_add_str:OpR X (binaryOp .Add) (fun x y H Q=>∃ i j,x=.str i∧y=.str j∧i.length + j.length≤sizeLine∧Q (.str (i ++ j)) H):=by
 intro pins s σ H x y v u Q I rx ry h
 obtain ⟨i,j,rfl,rfl,hz,q⟩:=h
 obtain ⟨t,rfl⟩:=rx
 obtain ⟨t',rfl⟩:=ry
 exact add_str (fun t' tk=>⟨.str (i ++ j),H,I.tok _,⟨_,rfl⟩,q⟩) hz
theorem vals1 {x:V} {us:List Value} (r:Vals [x] us):∃ u,us=[u]∧RelV x u:=by
 cases r with
 | cons r1 r2=>cases r2;exact ⟨_,rfl,r1⟩
theorem vals2 {x y:V} {us:List Value} (r:Vals [x,y] us):∃ u w',us=[u,w']∧RelV x u∧RelV y w':=by
 cases r with
 | cons r1 r2=>
  cases r2 with
  | cons r3 r4=>cases r4;exact ⟨_,_,rfl,r1,r3⟩
theorem call_max2 (hc:X.calm=true):CallR X (.builtin "max") (fun xs H Q=>∃ i j,xs=[.int i,.int j]∧Q (.int (if j > i then j else i)) H):=by
 intro pins s σ H xs us Q I r h
 obtain ⟨i,j,rfl,q⟩:=h
 obtain ⟨u,w',rfl,⟨t,rfl⟩,⟨t',rfl⟩⟩:=vals2 r
 refine max_two_ints (I.ok.hd hc) fun h' tk k=>⟨_,H,I.kept k,?_,q⟩
 by_cases hj:j > i
 ·rw [if_pos hj,if_pos hj];exact ⟨_,rfl⟩
 ·rw [if_neg hj,if_neg hj];exact ⟨_,rfl⟩
theorem call_str_int:CallR X (.type "str") (fun xs H Q=>∃ i,xs=[.int i]∧i.natAbs.log2 < 1920∧Q (.str (toString i)) H):=by
 intro pins s σ H xs us Q I r h
 obtain ⟨i,rfl,hz,q⟩:=h
 obtain ⟨u,rfl,t,rfl⟩:=vals1 r
 exact PySem.P.str_of_int hz ⟨.str _,H,I.tok _,⟨_,rfl⟩,q⟩
end
end L2
namespace L2
open PySem PySem.Spec PyProof.Rows
structure ObjM (h:Heap) (x dx C:Addr) (mA:Str→Option Value):Prop where
 obj:h.get? x=some (PySem.W.instObj C dx)
 ns:h.Ns1 dx mA
 ne:dx≠x
theorem lookIn_ns {h:Heap} {dx:Addr} {mA:Str→Option Value} (n:h.Ns1 dx mA):∃ od,h.get? dx=some od∧∀ name,PySem.W.lookIn name od=some (mA name):=by
 obtain ⟨o,es,ep,ho,hd,hk,_,hm⟩:=n
 refine ⟨o,ho,fun name=>?_⟩
 have e:=hm name
 unfold nsFind findBy at e
 rw [← Array.find?_toList] at e
 unfold PySem.W.lookIn
 rw [hd]
 dsimp only
 split
 ·rename_i y q
  rw [q] at e
  exact congrArg some e
 ·rename_i q
  rw [q] at e
  have a:es.toList.any (·.refKey)=false:=by
   rw [List.any_eq_false]
   intro y hy
   obtain ⟨z,t,hkey⟩:=hk y (Array.mem_toList_iff.mp hy)
   simp [DictEntry.refKey,hkey]
  have a':¬ es.toList.any (·.refKey)=true:=by rw [a];exact Bool.false_ne_true
  rw [if_neg a']
  exact congrArg some e
theorem ObjM.look {h:Heap} {x dx C:Addr} {mA:Str→Option Value} (I:ObjM h x dx C mA):∃ od,PySem.W.InstAt h x (PySem.W.instObj C dx) C (some od)∧∀ name,PySem.W.lookIn name od=some (mA name):=
 let ⟨od,ho,hl⟩:=lookIn_ns I.ns
 ⟨od,⟨I.obj,rfl,rfl,ho⟩,hl⟩
section
variable {prog:Program} {w:World} {A:Around} {E:Value→Shared→Prop} {s:Shared} {K:PySem.W.Frag} {x dx C f:Addr} {mA:Str→Option Value} {name:Str} {v:Value}
theorem get_map {expr:Bool} {Q:Value→Shared→Prop} (X:K.In s.heap) (I:ObjM s.heap x dx C mA) (hg:PySem.W.plainGet K C name=true) (hh:PySem.W.hasDictIn K C=true)
  (ha:PySem.W.findIn K (.ref C) name=some none) (hv:mA name=some v) (hv':PySem.W.handedIn v=true) (h:Q v { s with toks:=s.toks + 1 }) :
  wpAny (model prog w) A (getAttr (.ref x) name expr) Q E s:=by
 obtain ⟨od,J,hl⟩:=I.look
 exact PySem.W.get_value X J (PySem.W.plainGet_of hg).1 (PySem.W.findObj_own hh ha rfl (by rw [hl,hv])) hv' h
theorem get_meth {pl:Sem Bool} {Q:Value × List Value→Shared→Prop} (X:K.In s.heap) (I:ObjM s.heap x dx C mA) (hg:PySem.W.plainGet K C name=true)
  (hf:PySem.W.findIn K (.ref C) name=some (some (.ref f))) (ht:PySem.W.isFn K (.ref f)=true) (hv:mA name=none) (h:Q (.ref f,[.ref x]) s) :
  wpAny (model prog w) A (getMethod (.ref x) name pl) Q E s:=by
 obtain ⟨od,J,hl⟩:=I.look
 exact PySem.W.method_fn X J (PySem.W.plainGet_of hg).1 (PySem.W.plainGet_of hg).2 hf (beq_iff_eq.mp ht) (by show (PySem.W.lookIn name od).map (·.isSome)=some false;rw [hl,hv];rfl) h
theorem set_map {ns:List Str} {Q:Unit→Shared→Prop} (X:K.In s.heap) (I:ObjM s.heap x dx C mA)
  (hs:PySem.W.findIn K (.ref C) "__setattr__" = some (some (.builtin "object.__setattr__"))) (hp:PySem.W.plainOver K C=true) (ht:PySem.W.takerIn K C name=some none) (hh:PySem.W.hasDictIn K C=true)
  (hw:PySem.Within mA ns) (hsz:ns.length≤sizeLine)
  (h:∀ h',ObjM h' x dx C (fun y=>if y=name then some v else mA y)→Heap.SameBut dx s.heap h'→Q () { s with heap:=h',toks:=s.toks + 2 }) :
  wpAny (model prog w) A (setAttr (.ref x) name v) Q E s:=by
 obtain ⟨od,J,hl⟩:=I.look
 refine PySem.W.set_plain X J hs (PySem.W.osa_open (s:={ s with toks:=s.toks + 1 }) (r:=none) X J hp ht fun b=>?_)
 obtain ⟨cd,hc,hd'⟩:=PySem.W.any_some hh
 have hx:s.heap.get? x=some ⟨.ref C,some dx,.plain,#[]⟩:=I.obj
 refine wpAny_bind (wpAny_pure (wpAny_bind (wpAny_bind (wpAny_loadPart hx (wpAny_bind (PySem.W.Looks.here (s:={ s with toks:=s.toks + 1 }) (PySem.W.looks_clsIn X hc) ?_))))))
 rw [hd']
 refine wpAny_pure (a:=some dx) (wpAny_bind (wpAny_pure (wpAny_bind ?_)))
 refine wpAny_nsSet1 (s:={ s with toks:=s.toks + 1 }) I.ns fun h' hn2 hs2=>?_
 obtain ⟨oD,esD,epD,hoD,hdD,hcD⟩:=hn2.count (PySem.Within.cons name v hw)
 refine wpAny_bind (wpAny_lookBehind hoD (by rw [hdD];exact pastItsLine_dict (Nat.le_trans hcD (by rw [List.length_cons];omega))) ?_)
 exact wpAny_pure (h _ ⟨(hs2.2 _ (Ne.symm I.ne)).trans I.obj,hn2,I.ne⟩ hs2)
theorem make_map {R:Result→Shared→Prop} {vs:List Value} {kw:List (Str × Value)} (X:K.In s.heap) (hm:PySem.W.makesIn K C=true)
  (hi:PySem.W.findIn K (.ref C) "__init__" = some (some (.ref f))) (hf:PySem.W.typeIn K (.ref f)=some (.type "function"))
  (h:codeAny (model prog w) (A.under (.builtin "type.__call__" ⟨.ref C :: vs,kw⟩)) (.call (.ref f) ⟨.ref (s.heap.objs.size + 1) :: vs,kw⟩) (PySem.W.InitBack (s.heap.objs.size + 1) R)
   { s with heap:=(s.heap.push PySem.W.emptyDict).push (PySem.W.instObj C s.heap.objs.size) }) :
  codeAny (model prog w) A (.call (.ref C) ⟨vs,kw⟩) R s:=by
 obtain ⟨hh,g,d,t,os⟩:=s
 exact PySem.W.make_core (PySem.W.makes_of X hm) (PySem.W.looks_findIn X hi) (fun self=>PySem.W.bind_fn X self hf) (.inl rfl) h
end
def putF (f:Str) (v:V):List (Str × V)→List (Str × V)
 | []=>[(f,v)]
 | (g,x) :: r=>if g=f then (g,v) :: r else (g,x) :: putF f v r
theorem lookup_putF (f g:Str) (v:V):∀ fs:List (Str × V),(putF f v fs).lookup g=if g=f then some v else fs.lookup g
 | []=>by
  show List.lookup g [(f,v)]=_
  by_cases h:g=f
  ·have hb:(g == f)=true:=beq_iff_eq.mpr h
   simp only [List.lookup,hb,if_pos h]
  ·have hb:(g == f)=false:=beq_eq_false_iff_ne.mpr h
   simp only [List.lookup,hb,if_neg h]
 | (k,x) :: r=>by
  have ih:=lookup_putF f g v r
  rw [show putF f v ((k,x) :: r)=(if k=f then (k,v) :: r else (k,x) :: putF f v r) from rfl]
  by_cases hk:k=f
  ·rw [if_pos hk]
   by_cases h:g=k
   ·have hb:(g == k)=true:=beq_iff_eq.mpr h
    simp only [List.lookup,hb,if_pos (h.trans hk)]
   ·have hb:(g == k)=false:=beq_eq_false_iff_ne.mpr h
    simp only [List.lookup,hb,if_neg (fun e:g=f=>h (e.trans hk.symm))]
  ·rw [if_neg hk]
   by_cases h:g=k
   ·have hb:(g == k)=true:=beq_iff_eq.mpr h
    simp only [List.lookup,hb,if_neg (fun e:g=f=>hk (h.symm.trans e))]
   ·have hb:(g == k)=false:=beq_eq_false_iff_ne.mpr h
    simp only [List.lookup,hb]
    exact ih
theorem keys_putF (f:Str) (v:V):∀ fs:List (Str × V),f∈(putF f v fs).map (·.1)∧∀ g,g∈fs.map (·.1)→g∈(putF f v fs).map (·.1)
 | []=>⟨by simp [putF],fun g h=>by simp at h⟩
 | (k,x) :: r=>by
  obtain ⟨i1,i2⟩:=keys_putF f v r
  rw [show putF f v ((k,x) :: r)=(if k=f then (k,v) :: r else (k,x) :: putF f v r) from rfl]
  by_cases hk:k=f
  ·rw [if_pos hk]
   subst hk
   exact ⟨by simp,fun g h=>by simpa using h⟩
  ·rw [if_neg hk]
   refine ⟨?_,fun g h=>?_⟩
   ·rw [List.map_cons]
    exact List.mem_cons_of_mem _ i1
   ·rw [List.map_cons] at h ⊢
    rcases List.mem_cons.mp h with e | e
    ·exact List.mem_cons.mpr (.inl e)
    ·exact List.mem_cons_of_mem _ (i2 g e)
theorem length_putF (f:Str) (v:V):∀ fs:List (Str × V),(putF f v fs).length≤fs.length + 1
 | []=>by simp [putF]
 | (k,x) :: r=>by
  have ih:=length_putF f v r
  rw [show putF f v ((k,x) :: r)=(if k=f then (k,v) :: r else (k,x) :: putF f v r) from rfl]
  by_cases hk:k=f
  ·rw [if_pos hk,List.length_cons,List.length_cons];omega
  ·rw [if_neg hk,List.length_cons,List.length_cons];omega
theorem RelO.some_of {v:V} {o:Option Value} (r:RelO (some v) o):∃ u,o=some u∧RelV v u:=by
 cases o with
 | none=>exact (show False from r).elim
 | some u=>exact ⟨u,rfl,r⟩
theorem RelO.none_of {o:Option Value} (r:RelO none o):o=none:=by
 cases o with
 | none=>rfl
 | some u=>exact (show False from r).elim
theorem handed_of {v:V} {u:Value} (r:RelV v u):PySem.W.handedIn u=true:=by
 cases v with
 | non=>cases (show u=Value.none from r);rfl
 | bl b=>cases (show u=Value.bool b from r);rfl
 | int i=>obtain ⟨t,e⟩:=(show ∃ t,u=Value.int i t from r);cases e;rfl
 | str x=>obtain ⟨t,e⟩:=(show ∃ t,u=Value.str x t from r);cases e;rfl
 | byt b=>obtain ⟨t,e⟩:=(show ∃ t,u=Value.bytes b t from r);cases e;rfl
 | flt b=>obtain ⟨t,e⟩:=(show ∃ t,u=Value.float b t from r);cases e;rfl
 | ref a=>cases (show u=Value.ref a from r);rfl
 | ty n=>cases (show u=Value.type n from r);rfl
section
variable {P:Program} {w:World} {H H':Hp} {h h':Heap} {a C dx:Addr} {fs fs':List (Str × V)}
theorem ins_get (hok:HOk P w H h) (e:H a=some (.ins C dx fs)):∃ mA,ObjM h a dx C mA∧(∀ f,RelO (fs.lookup f) (mA f))∧PySem.Within mA (fs.map (·.1))∧fs.length≤1000∧H dx=some (.own a):=by
 obtain ⟨d,z,ne,ob,mA,n,r,q⟩:=(show ObjOk P w H h a (.ins C dx fs) from hok a _ e)
 exact ⟨mA,⟨ob,n,ne⟩,r,q,z,d⟩
end
structure Cls (K:PySem.W.Frag) (C:Addr):Prop where
 pg:PySem.W.plainGet K C Str.empty=true
 hd:PySem.W.hasDictIn K C=true
 po:PySem.W.plainOver K C=true
 sa:PySem.W.findIn K (.ref C) "__setattr__" = some (some (.builtin "object.__setattr__"))
theorem Cls.get {K:PySem.W.Frag} {C:Addr} (c:Cls K C) (f:Str):PySem.W.plainGet K C f=true:=c.pg
def NoAttr (K:PySem.W.Frag) (C:Addr) (f:Str):Prop:=PySem.W.findIn K (.ref C) f=some none
theorem NoAttr.taker {K:PySem.W.Frag} {C:Addr} {f:Str} (n:NoAttr K C f):PySem.W.takerIn K C f=some none:=by
 unfold PySem.W.takerIn
 rw [show PySem.W.findIn K (.ref C) f=some none from n]
 rfl
structure Con (K:PySem.W.Frag) (C:Addr) (f:Str) (v:V) (u:Value):Prop where
 at_:PySem.W.findIn K (.ref C) f=some (some u)
 rel:RelV v u
 get:PySem.W.specialIn K u "__get__" = some none
 cp:PySem.W.copiedNames.contains f=false
structure Meth (K:PySem.W.Frag) (C:Addr) (m:Str) (f:Addr):Prop where
 at_:PySem.W.findIn K (.ref C) m=some (some (.ref f))
 fn:PySem.W.isFn K (.ref f)=true
 kp:PySem.W.keepIn K (.ref f)=true
section
variable {X:Cx} {pins:List (Addr × Obj)} {σ:St} {H:Hp} {s:Shared} {a C dx:Addr} {fs:List (Str × V)} {f:Str} {v:V} {A:Around} {E:Value→Shared→Prop}
theorem getattr_ok {b:Bool} {Q:Value→Shared→Prop} (I:Inv X pins σ H s) (e:H a=some (.ins C dx fs)) (c:Cls X.K C) (n:NoAttr X.K C f) (l:fs.lookup f=some v)
  (h:∀ u s',Inv X pins σ H s'→RelV v u→Q u s'):wpAny (model X.prog X.w) A (getAttr (.ref a) f b) Q E s:=by
 obtain ⟨mA,O,r,_,_,_⟩:=ins_get I.hok e
 obtain ⟨u,hu,ru⟩:=RelO.some_of (v:=v) (o:=mA f) (by rw [← l];exact r f)
 exact get_map I.kIn O (c.get f) c.hd n hu (handed_of ru) (h u _ (I.tok _) ru)
theorem getmeth_ok {m:Str} {g:Addr} {pl:Sem Bool} {Q:Value × List Value→Shared→Prop} (I:Inv X pins σ H s) (e:H a=some (.ins C dx fs)) (c:Cls X.K C) (k:Meth X.K C m g) (l:fs.lookup m=none)
  (h:Q (.ref g,[.ref a]) s):wpAny (model X.prog X.w) A (getMethod (.ref a) m pl) Q E s:=by
 obtain ⟨mA,O,r,_,_,_⟩:=ins_get I.hok e
 have hn:mA m=none:=RelO.none_of (by rw [← l];exact r m)
 exact get_meth I.kIn O (c.get m) k.at_ k.fn hn h
theorem setattr_ok {y:V} {u:Value} {Q:Unit→Shared→Prop} (I:Inv X pins σ H s) (e:H a=some (.ins C dx fs)) (c:Cls X.K C) (n:NoAttr X.K C f) (hl:fs.length < 1000) (ry:RelV y u)
  (h:∀ s',Inv X pins σ (upd H a (.ins C dx (putF f y fs))) s'→Q () s'):wpAny (model X.prog X.w) A (setAttr (.ref a) f u) Q E s:=by
 obtain ⟨mA,O,r,wi,_,ho⟩:=ins_get I.hok e
 have hz:(fs.map (·.1)).length≤sizeLine:=by rw [List.length_map,sizeLine_eq];omega
 refine set_map I.kIn O c.sa c.po n.taker c.hd wi hz fun h' O' sb=>h _ ?_
 have hd:∃ o,h'.get? dx=some o:=let ⟨o,_,_,e',_⟩:=O'.ns;⟨o,e'⟩
 refine I.write (x:=a) (e:=dx) (by rw [e];exact True.intro) (.inr ho) (fun b q hb z=>(sb.2 b hb).trans z) hd ?_
 refine ⟨by rw [upd_ne O.ne];exact ho,?_,O.ne,O'.obj,_,O'.ns,fun g=>?_,fun g hg=>?_⟩
 ·have:=length_putF f y fs;omega
 ·show RelO ((putF f y fs).lookup g) (if g=f then some u else mA g)
  rw [lookup_putF]
  by_cases q:g=f
  ·rw [if_pos q,if_pos q];exact ry
  ·rw [if_neg q,if_neg q];exact r g
 ·by_cases q:g=f
  ·rw [q];exact (keys_putF f y fs).1
  ·refine (keys_putF f y fs).2 g (wi g fun z=>hg ?_)
   show (if g=f then some u else mA g)=none
   rw [if_neg q];exact z
theorem Inv.made (I:Inv X pins σ H s):Inv X pins σ (upd (upd H s.heap.objs.size (.own (s.heap.objs.size + 1))) (s.heap.objs.size + 1) (.ins C s.heap.objs.size []))
  { s with heap:=(s.heap.push PySem.W.emptyDict).push (PySem.W.instObj C s.heap.objs.size) }:=by
 have e1:(s.heap.push PySem.W.emptyDict).get? s.heap.objs.size=some PySem.W.emptyDict:=Heap.get?_push_size s.heap rfl
 have e2:((s.heap.push PySem.W.emptyDict).push (PySem.W.instObj C s.heap.objs.size)).get? (s.heap.objs.size + 1)=some (PySem.W.instObj C s.heap.objs.size):=by
  have:=Heap.get?_push_size (s.heap.push PySem.W.emptyDict) (o:=PySem.W.instObj C s.heap.objs.size) rfl
  rwa [Heap.size_push] at this
 have e3:(s.heap.push PySem.W.emptyDict).Ns s.heap.objs.size (fun _=>none):=⟨PySem.W.emptyDict,#[],_,e1,rfl,(fun e he=>absurd he (by simp)),fun _=>rfl⟩
 have I1:=I.laid (a:=s.heap.objs.size) (o:=.own (s.heap.objs.size + 1)) (h':=s.heap.push PySem.W.emptyDict) (t':=s.toks) (fun b u q=>Heap.get?_push_of_some _ q) (Nat.le_refl _) ⟨_,e1⟩
 refine I1.laid (a:=s.heap.objs.size + 1) (o:=.ins C s.heap.objs.size []) (t':=s.toks) (fun b u q=>Heap.get?_push_of_some _ q) (Nat.le_of_eq (Heap.size_push _ _)) ?_
 have ne:s.heap.objs.size≠s.heap.objs.size + 1:=Nat.ne_of_lt (Nat.lt_succ_self _)
 refine ⟨by rw [upd_ne ne,upd_same],Nat.zero_le _,ne,e2,fun _=>none,(Heap.Ns1.of_empty e3).at fun o q=>Heap.get?_push_of_some _ q,fun _=>True.intro,fun y hy=>absurd rfl hy⟩
theorem attr_of {prog:Program} {w:World} {env:Env} {e:Expr} {f:Str} {pos:Pos} {s:Shared} {Q:Value→Shared→Prop} (hb:attributeBase e f env (eval e env)=eval e env)
  (h:wpAny (model prog w) A (eval e env) (fun o s₁=>wpAny (model prog w) A (getAttr o f true) Q E s₁) E s):wpAny (model prog w) A (eval (.Attribute e f pos) env) Q E s:=
 Attribute_any_ h (by rw [arm_eval_Attribute,hb])
end
def tFld (K:PySem.W.Frag) (ta:TE) (f:Str):TE:=fun σ H Q=>ta σ H fun x H1=>∃ a C dx fs v,x=.ref a∧H1 a=some (.ins C dx fs)∧Cls K C∧NoAttr K C f∧fs.lookup f=some v∧Q v H1
def sFld (K:PySem.W.Frag) (ta tv:TE) (f:Str):TS:=fun D σ H=>tv σ H fun y H1=>ta σ H1 fun x H2=>∃ a C dx fs,x=.ref a∧H2 a=some (.ins C dx fs)∧Cls K C∧NoAttr K C f∧fs.length < 1000 ∧
 D.nx σ (upd H2 a (.ins C dx (putF f y fs)))
section
variable {X:Cx} {o e value:Expr} {f:Str} {pos pos' tpos:Pos} {ta tv:TE}
theorem pe_fld (he:PE X e ta) (hb:attributeBase e f X.env (eval e X.env)=eval e X.env):PE X (.Attribute e f pos) (tFld X.K ta f):=by
 intro pins s σ H Q I h
 refine attr_of hb (thn (he pins s σ H _ I h) fun u s1 ⟨x,H1,I1,rx,a,C,dx,fs,v,ex,ea,c,n,l,q⟩=>?_)
 subst ex
 obtain rfl:u=Value.ref a:=rx
 exact getattr_ok I1 ea c n l fun u' s2 I2 ru=>⟨v,H1,I2,ru,q⟩
theorem ps_fld (ha:PE X o ta) (hv:PE X value tv) (hs:swapsWith value (some (.Attribute o f pos')) pos.line X.env=pure false):PS X (.Assign [.Attribute o f pos'] value pos) (sFld X.K ta tv f):=by
 intro pins s σ H D I h
 refine plainObj_wpAny_Assign_Attribute (thn (hv pins s σ H _ I h) fun u s1 ⟨y,H1,I1,ry,q⟩=>thn (ha pins s1 σ H1 _ I1 q) fun ov s2 ⟨x,H2,I2,rx,a,C,dx,fs,ex,ea,c,n,l,q2⟩=>?_) hs
 subst ex
 obtain rfl:ov=Value.ref a:=rx
 exact setattr_ok I2 ea c n l ry fun s3 I3=>⟨σ,_,I3,q2⟩
end
section
variable {X:Cx} {pins:List (Addr × Obj)} {σ:St} {H:Hp} {s:Shared} {A:Around} {E:Value→Shared→Prop} {Q:Value→Shared→Prop} {c:Value} {b:Bool}
inductive TyOf (K:PySem.W.Frag) (H:Hp):V→Value→Prop where
 | non:TyOf K H .non (.type "NoneType")
 | bl (x:Bool):TyOf K H (.bl x) (.type "bool")
 | int (i:Int):TyOf K H (.int i) (.type "int")
 | str (x:Str):TyOf K H (.str x) (.type "str")
 | flt (x:UInt64):TyOf K H (.flt x) (.type "float")
 | lst {a:Addr} {xs:List V} (e:H a=some (.lst xs)):TyOf K H (.ref a) (.type "list")
 | frz {a:Addr} {o:Obj} {xs:List V} (e:H a=some (.frz o (.lst xs))):TyOf K H (.ref a) (.type "list")
 | tup {a:Addr} {xs:List V} (e:H a=some (.tup xs)):TyOf K H (.ref a) (.type "tuple")
 | dK {a:Addr} {kvs:List (Key × V)} (e:H a=some (.dK kvs)):TyOf K H (.ref a) (.type "dict")
 | dT {a:Addr} {kvs:List (List Key × V)} (e:H a=some (.dT kvs)):TyOf K H (.ref a) (.type "dict")
 | ins {a C dx:Addr} {fs:List (Str × V)} (e:H a=some (.ins C dx fs)) (cl:Cls K C) (ha:PySem.W.findIn K (.ref C) "__class__" = some (some (.builtin "object.__class__")))
   (hn:PySem.W.specialIn K (.builtin "object.__class__") "__get__" = some (some (.builtin "getset_descriptor.__get__"))) (htk:PySem.W.takesIn K (.builtin "object.__class__")=some true)
   (hm:PySem.W.mroIn K C (.type "object")=some true):TyOf K H (.ref a) (.ref C)
theorem isinst_ok {x:V} {u t:Value} (I:Inv X pins σ H s) (rx:RelV x u) (ty:TyOf X.K H x t) (e:PySem.W.kitOne X.K t c=some b) (h:∀ tk,Q (.bool b) { s with toks:=tk }) :
  wpAny (model X.prog X.w) A (call (.builtin "isinstance") [u,c]) Q E s:=by
 cases ty with
 | non=>cases (show u=Value.none from rx);exact PySem.W.kia_one PySem.W.kitx_none I.kIn True.intro e (fun z=>nomatch z) h
 | bl y=>cases (show u=Value.bool y from rx);exact PySem.W.kia_one PySem.W.kitx_bool I.kIn True.intro e (fun z=>nomatch z) h
 | int i=>obtain ⟨t,q⟩:=(show ∃ t,u=Value.int i t from rx);cases q;exact PySem.W.kia_one PySem.W.kitx_int I.kIn True.intro e (fun z=>nomatch z) h
 | str y=>obtain ⟨t,q⟩:=(show ∃ t,u=Value.str y t from rx);cases q;exact PySem.W.kia_one PySem.W.kitx_str I.kIn True.intro e (fun z=>nomatch z) h
 | flt y=>obtain ⟨t,q⟩:=(show ∃ t,u=Value.float y t from rx);cases q;exact PySem.W.kia_one PySem.W.kitx_float I.kIn True.intro e (fun z=>nomatch z) h
 | @lst a xs ea=>
  cases (show u=Value.ref a from rx)
  obtain ⟨_,_,n,_,h1⟩:=(show ObjOk X.prog X.w H s.heap a (.lst xs) from I.hok a _ ea)
  exact PySem.W.kia_one PySem.W.kitx_list I.kIn ⟨_,h1,rfl⟩ e (fun z=>nomatch z) h
 | @frz a ob xs ea=>
  cases (show u=Value.ref a from rx)
  obtain ⟨_,_,_,n,_,h1⟩:=(show ObjOk X.prog X.w H s.heap a (.frz ob (.lst xs)) from I.hok a _ ea)
  exact PySem.W.kia_one PySem.W.kitx_list I.kIn ⟨_,h1,rfl⟩ e (fun z=>nomatch z) h
 | @tup a xs ea=>
  cases (show u=Value.ref a from rx)
  obtain ⟨_,_,_,p⟩:=(show ObjOk X.prog X.w H s.heap a (.tup xs) from I.hok a _ ea)
  obtain ⟨o,h1,h2,_⟩:=p
  exact PySem.W.kia_one PySem.W.kitx_tuple I.kIn ⟨o,h1,h2⟩ e (fun z=>nomatch z) h
 | @dK a kvs ea=>
  cases (show u=Value.ref a from rx)
  obtain ⟨_,_,vs,_,p⟩:=(show ObjOk X.prog X.w H s.heap a (.dK kvs) from I.hok a _ ea)
  obtain ⟨o,es,ep,h1,h2,_⟩:=p
  exact PySem.W.kia_one PySem.W.kitx_dict I.kIn ⟨o,h1,h2.1⟩ e (fun z=>nomatch z) h
 | @dT a kvs ea=>
  cases (show u=Value.ref a from rx)
  obtain ⟨_,_,xs,_,o,es,ep,h1,h2,_⟩:=(show ObjOk X.prog X.w H s.heap a (.dT kvs) from I.hok a _ ea)
  exact PySem.W.kia_one PySem.W.kitx_dict I.kIn ⟨o,h1,h2.1⟩ e (fun z=>nomatch z) h
 | @ins a C dx fs ea cl ha hn htk hm=>
  cases (show u=Value.ref a from rx)
  obtain ⟨mA,O,_⟩:=ins_get I.hok ea
  obtain ⟨od,J,_⟩:=O.look
  exact PySem.W.kia_one (PySem.W.kitx_own (cl.get _) cl.hd ha hn htk hm) I.kIn J e (fun z=>nomatch z) h
end
end L2
namespace L2
open PySem PySem.Spec PyProof.Rows
structure Room (k:Nat) (A:Around):Prop where
 hd:A.handled=none
 dp:A.depth + 3 * k + 5 < recursionLimit
 un:A.units + 16 * k + 200 < cLine
theorem Room.mono {j k:Nat} {A:Around} (r:Room k A) (h:j≤k):Room j A:=⟨r.hd,by have:=r.dp;omega,by have:=r.un;omega⟩
theorem Room.deeper {k:Nat} {A:Around} (r:Room (k + 1) A) (env:Env):Room k (A.deeper env):=
 ⟨r.hd,by have:=r.dp;show A.depth + 1 + 3 * k + 5 < _;omega,by have:=r.un;show A.units + 3 + 16 * k + 200 < _;omega⟩
theorem Room.in1 {k:Nat} {A:Around} (r:Room (k + 1) A):Room k A.in1:=
 ⟨r.hd,by have:=r.dp;show A.depth + 3 * k + 5 < _;omega,by have:=r.un;show A.units + 1 + 16 * k + 200 < _;omega⟩
theorem make_depth {A:Around} {C:Addr} {us:List Value} {kw:List (Str × Value)}:(A.under (.builtin "type.__call__" ⟨.ref C :: us,kw⟩)).depth=A.depth + 1:=by
 first | rfl | simp [Around.under,Code.weight,Code.isCreation,Code.isGuard,Code.isCaller,Code.frames,Code.isFrame,guardIds]
theorem make_units {A:Around} {C:Addr} {us:List Value} {kw:List (Str × Value)}:(A.under (.builtin "type.__call__" ⟨.ref C :: us,kw⟩)).units=A.units + 1:=by
 first | rfl | simp [Around.under,Code.cUnits,Code.frames,Code.isFrame]
theorem Room.make {k:Nat} {A:Around} (r:Room (k + 1) A) (C:Addr) (us:List Value) (kw:List (Str × Value)):Room k (A.under (.builtin "type.__call__" ⟨.ref C :: us,kw⟩)):=
 ⟨r.hd,by have:=r.dp;rw [make_depth];omega,by have:=r.un;rw [make_units];omega⟩
theorem Room.depth {k:Nat} {A:Around} (r:Room k A):A.depth < recursionLimit:=by have:=r.dp;omega
theorem Room.units {k:Nat} {A:Around} (r:Room k A):A.units + 64 < cLine:=by have:=r.un;omega
def tNil:TA:=fun _ H Q=>Q [] H
def tCons (ta:TE) (tr:TA):TA:=fun σ H Q=>ta σ H fun x H1=>tr σ H1 fun xs H2=>Q (x :: xs) H2
section
variable {X:Cx} {e:Expr} {es:List Expr} {te:TE} {t:TA} {pos:Pos}
theorem pa_nil:PA X [] tNil:=fun _ _ _ _ H Q I h=>Calls.spliced_nil ⟨[],H,I,.nil,h⟩
theorem pa_cons (ha:PE X e te) (hr:PA X es t) (hs:starEach (e :: es) X.env=(false,eval e X.env) :: starEach es X.env:=by rfl):PA X (e :: es) (tCons te t):=by
 intro pos pins s σ H Q I h
 rw [hs]
 show wpAny _ _ (spliced ((false,eval e X.env) :: backTo pos (starEach es X.env))) _ _ s
 refine Calls.spliced_cons (thn (ha pins s σ H _ I h) fun u s1 ⟨x,H1,I1,r1,q1⟩=>?_)
 exact thn (hr pos pins s1 σ H1 _ I1 q1) fun us s2 ⟨xs,H2,I2,r2,q2⟩=>⟨x :: xs,H2,I2,.cons r1 r2,q2⟩
def tTup (t:TA):TE:=fun σ H Q=>t σ H fun xs H1=>xs.length≤sizeLine∧∀ p,H1 p=none→Q (.ref p) (upd H1 p (.tup xs))
def tLst (t:TA):TE:=fun σ H Q=>t σ H fun xs H1=>xs.length≤sizeLine∧∀ p,H1 p=none→Q (.ref p) (upd H1 p (.lst xs))
theorem pe_tup {x1} (h:PA X es t):PE X (.Tuple es x1 pos) (tTup t):=by
 intro pins s σ H Q I hq
 refine wpAny_Tuple_spliced (thn (h pos pins s σ H _ I hq) fun us s1 ⟨xs,H1,I1,r,z,q⟩=>⟨by rw [← r.length];exact z,?_⟩)
 have hf:H1 s1.heap.objs.size=none:=I1.hok.fresh (Nat.le_refl _)
 refine ⟨.ref s1.heap.objs.size,upd H1 s1.heap.objs.size (.tup xs),I1.laid (t':=s1.toks) (fun b u e=>Heap.get?_push_of_some _ e) (Nat.le_refl _) ?_,rfl,q _ hf⟩
 exact ⟨z,us,r,⟨_,Heap.get?_push_size _ rfl,rfl,_,rfl⟩⟩
theorem pe_lst (h:PA X es t):PE X (.List es pos) (tLst t):=by
 intro pins s σ H Q I hq
 refine wpAny_List_spliced (thn (h pos pins s σ H _ I hq) fun us s1 ⟨xs,H1,I1,r,z,q⟩=>⟨by rw [← r.length];exact z,?_⟩)
 have hf:H1 s1.heap.objs.size=none:=I1.hok.fresh (Nat.le_refl _)
 refine ⟨.ref s1.heap.objs.size,upd H1 s1.heap.objs.size (.lst xs),I1.laid (t':=s1.toks) (fun b u e=>Heap.get?_push_of_some _ e) (Nat.le_refl _) ?_,rfl,q _ hf⟩
 exact ⟨z,us,0,r,Heap.get?_push_size _ rfl⟩
end
abbrev Sp:=List V→Hp→VK→XK→Prop
abbrev CXT:=List Env→Hp→Shared→XK→Value→Shared→Prop
structure Env0 (P:Program) (w:World) (K:PySem.W.Frag) (mg:Str→Option Value) (base:Heap) (A:Around) (outer:List Env) (s:Shared) (H:Hp):Prop where
 frames:A.frames=some outer
 mod:Mod K mg base
 bs:∀ b o,base.get? b=some o→s.heap.get? b=some o∧H b=none
 bsz:base.objs.size≤s.heap.objs.size
 funs:s.heap.FunFrames base outer
 frf:∀ b∈frs outer,H b=none
 hok:HOk P w H s.heap
 bare:AllBare s.gens
def CE (outer:List Env) (P:Program) (w:World) (H:Hp) (s:Shared) (Q:VK) (u:Value) (s':Shared):Prop:=
 ∃ v H',s'.os=s.os∧AllBare s'.gens∧Un (frs outer) [] H H' s.heap s'.heap∧HOk P w H' s'.heap∧RelV v u∧Q v H'
def CR (CX:CXT) (outer:List Env) (P:Program) (w:World) (H:Hp) (s:Shared) (Q:VK) (E:XK) (r:Result) (s':Shared):Prop:=
 match r with
 | .ok (.ret u)=>CE outer P w H s Q u s'
 | .ok _=>False
 | .error e=>CX outer H s E e s'
structure FnOk (P:Program) (w:World) (K:PySem.W.Frag) (mg:Str→Option Value) (base:Heap) (CX:CXT) (k:Nat) (f:Addr) (fd:FuncData) (ps:List Str) (sp:Sp):Prop where
 len:∀ vs H Q E,sp vs H Q E→vs.length=ps.length
 run:∀ (A:Around) (outer:List Env) (s:Shared) (H:Hp) (args:Args) (us:List Value) (vs:List V) (Q:VK) (E:XK),Room k A→Env0 P w K mg base A outer s H→BindsTo s fd args (ps.zip us)→Vals vs us→sp vs H Q E →
  codeAny (model P w) A (.call (.ref f) args) (CR CX outer P w H s Q E) s
theorem FnOk.mono {P:Program} {w:World} {K:PySem.W.Frag} {mg:Str→Option Value} {base:Heap} {CX:CXT} {j k:Nat} {f:Addr} {fd:FuncData} {ps:List Str} {sp:Sp} (F:FnOk P w K mg base CX j f fd ps sp) (h:j≤k) :
  FnOk P w K mg base CX k f fd ps sp:=⟨F.len,fun A outer s H args us vs Q E hr=>F.run A outer s H args us vs Q E (hr.mono h)⟩
theorem FnOk.imp {P:Program} {w:World} {K:PySem.W.Frag} {mg:Str→Option Value} {base:Heap} {CX:CXT} {k:Nat} {f:Addr} {fd:FuncData} {ps:List Str} {sp sp':Sp} (F:FnOk P w K mg base CX k f fd ps sp)
  (h:∀ vs H Q E,sp' vs H Q E→sp vs H Q E):FnOk P w K mg base CX k f fd ps sp':=
 ⟨fun vs H Q E q=>F.len vs H Q E (h _ _ _ _ q),fun A outer s H args us vs Q E hr he hb hv hs=>F.run A outer s H args us vs Q E hr he hb hv (h _ _ _ _ hs)⟩
theorem Env0.make {P:Program} {w:World} {K:PySem.W.Frag} {mg:Str→Option Value} {base:Heap} {A:Around} {outer:List Env} {s:Shared} {H:Hp} (e:Env0 P w K mg base A outer s H) (C:Addr) (us:List Value) (kw:List (Str × Value)) :
  Env0 P w K mg base (A.under (.builtin "type.__call__" ⟨.ref C :: us,kw⟩)) outer s H:=⟨by first | exact e.frames | (simpa [Around.under,Code.envs,Code.isFrame,pushEnvs] using e.frames),e.mod,e.bs,e.bsz,e.funs,e.frf,e.hok,e.bare⟩
theorem Env0.in1 {P:Program} {w:World} {K:PySem.W.Frag} {mg:Str→Option Value} {base:Heap} {A:Around} {outer:List Env} {s:Shared} {H:Hp} (e:Env0 P w K mg base A outer s H) :
  Env0 P w K mg base A.in1 outer s H:=⟨e.frames,e.mod,e.bs,e.bsz,e.funs,e.frf,e.hok,e.bare⟩
section
variable {X:Cx} {pins:List (Addr × Obj)} {σ:St} {H:Hp} {s s':Shared}
theorem Inv.env0 (I:Inv X pins σ H s):Env0 X.prog X.w X.K X.mg X.base X.A X.stack s H:=
 ⟨I.ok.frames,I.ok.mod,I.bs,Nat.le_trans I.ok.bsz I.sz,I.stack,I.stkFree,I.hok,I.bare⟩
theorem Inv.after {Q:VK} {u:Value} (I:Inv X pins σ H s) (h:CE X.stack X.prog X.w H s Q u s'):EP X pins σ Q u s':=by
 obtain ⟨v,H',os,bare,un,hok,r,q⟩:=h
 obtain ⟨hh,g,d,t,os'⟩:=s'
 obtain rfl:os'=s.os:=os
 exact ⟨v,H',I.call (h':=hh) (g':=g) (d':=d) (t':=t) (ch:=[]) un hok bare (fun b z=>absurd z (by simp)),r,q⟩
end
def tCall (sp:Sp) (dvs:List V) (E:XK) (t:TA):TE:=fun σ H Q=>t σ H fun vs H1=>sp (vs ++ dvs) H1 Q E
def tMeth (C:Addr) (m:Str) (sp:Sp) (dvs:List V) (E:XK) (ta:TE) (t:TA):TE:=fun σ H Q=>ta σ H fun x H1=>∃ a dx fs,x=.ref a∧H1 a=some (.ins C dx fs)∧fs.lookup m=none ∧
 t σ H1 fun vs H2=>sp (x :: (vs ++ dvs)) H2 Q E
def tMake (C:Addr) (sp:Sp) (dvs:List V) (E:XK) (t:TA):TE:=fun σ H Q=>t σ H fun vs H1=>∀ x dx,H1 x=none→H1 dx=none→dx≠x →
 sp (.ref x :: (vs ++ dvs)) (upd (upd H1 dx (.own x)) x (.ins C dx [])) (fun v H2=>v=.non∧Q (.ref x) H2) E
def Binds (K:PySem.W.Frag) (fd:FuncData) (ps:List Str) (ds:List Value):Prop:=
 ∀ (s:Shared) (us:List Value),K.In s.heap→(us ++ ds).length=ps.length→BindsTo s fd ⟨us,[]⟩ (ps.zip (us ++ ds))
theorem Binds.all {K:PySem.W.Frag} {fd:FuncData} {ps:List Str} (h:∀ us:List Value,us.length=ps.length→bindArgs fd ⟨us,[]⟩=pure (ps.zip us)):Binds K fd ps []:=fun s us _ hl=>by
 rw [List.append_nil] at hl ⊢
 exact .of_eq (h us hl)
def Passes (CX:CXT) (X:Cx) (E:XK):Prop:=∀ (pins:List (Addr × Obj)) (σ:St) (H:Hp) (s:Shared) (e:Value) (s':Shared),Inv X pins σ H s→CX X.stack H s E e s'→X.xe e s'
section
variable {X:Cx} {CX:CXT} {k:Nat} {f C:Addr} {fd:FuncData} {ps:List Str} {sp:Sp} {dvs:List V} {ds:List Value} {E:XK} {x m:Str} {p pos apos:Pos} {e o:Expr} {es:List Expr} {ta:TE} {t:TA}
theorem run_fn {pins:List (Addr × Obj)} {σ:St} {H:Hp} {s:Shared} {Q:VK} {us:List Value} {vs:List V} (F:FnOk X.prog X.w X.K X.mg X.base CX k f fd ps sp) (hr:Room k X.A) (hb:Binds X.K fd ps ds) (hd:Vals dvs ds) (hx:Passes CX X E)
  (I:Inv X pins σ H s) (r:Vals vs us) (h:sp (vs ++ dvs) H Q E):wpAny (model X.prog X.w) X.A (call (.ref f) us) (EP X pins σ Q) X.xe s:=by
 have r2:Vals (vs ++ dvs) (us ++ ds):=r.append hd
 have hl:(us ++ ds).length=ps.length:=by rw [← r2.length];exact F.len _ _ _ _ h
 refine wpAny_call (codeAny_mono (F.run X.A X.stack s H ⟨us,[]⟩ (us ++ ds) (vs ++ dvs) Q E hr I.env0 (hb s us I.kIn hl) r2 h) fun r s' hq=>?_)
 cases r with
 | error e=>exact hx pins σ H s e s' I hq
 | ok fl=>
  cases fl with
  | ret u=>exact I.after hq
  | next=>exact False.elim hq
  | brk=>exact False.elim hq
  | cont=>exact False.elim hq
theorem pe_call (F:FnOk X.prog X.w X.K X.mg X.base CX k f fd ps sp) (hr:Room k X.A) (hg:Gl X x) (hm:X.mg x=some (.ref f)) (hk:PySem.W.keepIn X.K (.ref f)=true) (hb:Binds X.K fd ps ds) (hd:Vals dvs ds) (hx:Passes CX X E)
  (ha:PA X (e :: es) t) (hdb:(x == ("__debug__":Str))=false:=by decide) (he:starEach (e :: es) X.env=(false,eval e X.env) :: starEach es X.env:=by rfl) (hpl:(backTo pos (starEach es X.env)).any (·.1)=false:=by rfl) :
  PE X (.Call (.Name x p) (e :: es) [] pos) (tCall sp dvs E t):=by
 intro pins s σ H Q I h
 refine wpAny_Call_Name_kw (ld_glob I hg hm ?_ hdb)
 refine PySem.W.callWith_K (h₀:=X.base) I.ok.mod.kin hk (thn (ha pos pins s σ H _ I h) fun us s1 ⟨vs,H1,I1,r,q⟩=>⟨I1.kIn,?_⟩) he hpl
 exact run_fn F hr hb hd hx I1 r q
theorem pe_meth {pl:Sem Bool} (he:PE X o ta) (c:Cls X.K C) (hm:Meth X.K C m f) (F:FnOk X.prog X.w X.K X.mg X.base CX k f fd ps sp) (hr:Room k X.A) (hb:Binds X.K fd ps ds) (hd:Vals dvs ds) (hx:Passes CX X E) (ha:PA X (e :: es) t)
  (hst:starEach (e :: es) X.env=(false,eval e X.env) :: starEach es X.env:=by rfl) (hpl:(backTo pos (starEach es X.env)).any (·.1)=false:=by rfl)
  (ht:eval (.Call (.Attribute o m apos) (e :: es) [] pos) X.env=(do
   let ov ← eval o X.env
   standAt apos.atName
   let (f,first) ← holding [ov] (getMethod ov m pl)
   callWith pos f first (backTo pos (starEach (e :: es) X.env)) (backToKw pos (keywordEach [] X.env))):=by rfl) :
  PE X (.Call (.Attribute o m apos) (e :: es) [] pos) (tMeth C m sp dvs E ta t):=by
 intro pins s σ H Q I h
 refine PySem.W.methodCall_KW (pl:=pl) (thn (he pins s σ H _ I h) fun u s1 ⟨x,H1,I1,rx,a,dx,fs,ex,ea,l,q⟩=>?_) ht
 subst ex
 obtain rfl:u=Value.ref a:=rx
 refine getmeth_ok I1 ea c hm l ?_
 refine PySem.W.callWith_K (first:=[.ref a]) (h₀:=X.base) I.ok.mod.kin hm.kp (thn (ha pos pins s1 σ H1 _ I1 q) fun us s2 ⟨vs,H2,I2,r,q2⟩=>⟨I2.kIn,?_⟩) hst hpl
 exact run_fn (us:=.ref a :: us) (vs:=.ref a :: vs) F hr hb hd hx I2 (.cons rfl r) q2
theorem pe_meth0 {pl:Sem Bool} (he:PE X o ta) (c:Cls X.K C) (hm:Meth X.K C m f) (F:FnOk X.prog X.w X.K X.mg X.base CX k f fd ps sp) (hr:Room k X.A) (hb:Binds X.K fd ps ds) (hd:Vals dvs ds) (hx:Passes CX X E)
  (ht:eval (.Call (.Attribute o m apos) [] [] pos) X.env=(do
   let ov ← eval o X.env
   standAt apos.atName
   let (f,first) ← holding [ov] (getMethod ov m pl)
   callWith pos f first (backTo pos (starEach [] X.env)) (backToKw pos (keywordEach [] X.env))):=by rfl) :
  PE X (.Call (.Attribute o m apos) [] [] pos) (tMeth C m sp dvs E ta tNil):=by
 intro pins s σ H Q I h
 refine PySem.W.methodCall_KW (pl:=pl) (thn (he pins s σ H _ I h) fun u s1 ⟨x,H1,I1,rx,a,dx,fs,ex,ea,l,q⟩=>?_) ht
 subst ex
 obtain rfl:u=Value.ref a:=rx
 refine getmeth_ok I1 ea c hm l ?_
 exact PySem.W.callWith_K0 (first:=[.ref a]) I1.kIn hm.kp (run_fn (us:=[.ref a]) (vs:=[.ref a]) F hr hb hd hx I1 (.cons rfl .nil) q)
structure Mk (K:PySem.W.Frag) (C f:Addr):Prop where
 makes:PySem.W.makesIn K C=true
 init:PySem.W.findIn K (.ref C) "__init__" = some (some (.ref f))
 fn:PySem.W.isFn K (.ref f)=true
 kp:PySem.W.keepIn K (.ref C)=true
theorem run_make {pins:List (Addr × Obj)} {σ:St} {H:Hp} {s:Shared} {Q:VK} {us:List Value} {vs:List V} (M:Mk X.K C f) (F:FnOk X.prog X.w X.K X.mg X.base CX k f fd ps sp) (hr:Room (k + 1) X.A) (hb:Binds X.K fd ps ds) (hd:Vals dvs ds)
  (hx:Passes CX X E) (I:Inv X pins σ H s) (r:Vals vs us)
  (h:∀ x dx,H x=none→H dx=none→dx≠x→sp (.ref x :: (vs ++ dvs)) (upd (upd H dx (.own x)) x (.ins C dx [])) (fun v H2=>v=.non∧Q (.ref x) H2) E) :
  wpAny (model X.prog X.w) X.A (call (.ref C) us) (EP X pins σ Q) X.xe s:=by
 have hq:=h (s.heap.objs.size + 1) s.heap.objs.size (I.hok.fresh (Nat.le_succ _)) (I.hok.fresh (Nat.le_refl _)) (Nat.ne_of_lt (Nat.lt_succ_self _))
 have I2:=Inv.made (C:=C) I
 have r2:Vals (V.ref (s.heap.objs.size + 1) :: (vs ++ dvs)) (Value.ref (s.heap.objs.size + 1) :: (us ++ ds)):=.cons rfl (r.append hd)
 have hl:(Value.ref (s.heap.objs.size + 1) :: us ++ ds).length=ps.length:=by
  have e:=r2.length
  rw [F.len _ _ _ _ hq] at e
  exact e.symm
 refine wpAny_call (make_map (f:=f) I.kIn M.makes M.init (beq_iff_eq.mp M.fn) (codeAny_mono (F.run _ X.stack _ _ ⟨Value.ref (s.heap.objs.size + 1) :: us,[]⟩ (Value.ref (s.heap.objs.size + 1) :: (us ++ ds)) _ _ E (hr.make C us [])
  (I2.env0.make C us []) (hb _ (Value.ref (s.heap.objs.size + 1) :: us) I2.kIn hl) r2 hq) fun r s' hq'=>?_))
 cases r with
 | error e=>exact hx pins σ _ _ e s' I2 hq'
 | ok fl=>
  cases fl with
  | ret u=>
   obtain ⟨v,H',I3,rv,ev,q3⟩:=I2.after hq'
   subst ev
   exact ⟨rv,⟨V.ref (s.heap.objs.size + 1),H',I3,rfl,q3⟩⟩
  | next=>exact False.elim hq'
  | brk=>exact False.elim hq'
  | cont=>exact False.elim hq'
theorem pe_make (M:Mk X.K C f) (F:FnOk X.prog X.w X.K X.mg X.base CX k f fd ps sp) (hr:Room (k + 1) X.A) (hg:Gl X x) (hm:X.mg x=some (.ref C)) (hb:Binds X.K fd ps ds) (hd:Vals dvs ds) (hx:Passes CX X E)
  (ha:PA X (e :: es) t) (hdb:(x == ("__debug__":Str))=false:=by decide) (he:starEach (e :: es) X.env=(false,eval e X.env) :: starEach es X.env:=by rfl) (hpl:(backTo pos (starEach es X.env)).any (·.1)=false:=by rfl) :
  PE X (.Call (.Name x p) (e :: es) [] pos) (tMake C sp dvs E t):=by
 intro pins s σ H Q I h
 refine wpAny_Call_Name_kw (ld_glob I hg hm ?_ hdb)
 refine PySem.W.callWith_K (h₀:=X.base) I.ok.mod.kin M.kp (thn (ha pos pins s σ H _ I h) fun us s1 ⟨vs,H1,I1,r,q⟩=>⟨I1.kIn,?_⟩) he hpl
 exact run_make M F hr hb hd hx I1 r q
end
section
variable {X:Cx} {CX:CXT} {k:Nat} {f C:Addr} {fd:FuncData} {ps ks:List Str} {sp:Sp} {E:XK} {x m:Str} {p pos apos kpos:Pos} {e o:Expr} {es:List Expr} {kws:List Keyword} {te ta:TE} {t tk:TA} {nm:Option Str}
structure KBinds (K:PySem.W.Frag) (fd:FuncData) (ps ks:List Str) (g:List Value→List Value→List Value) (gV:List V→List V→List V):Prop where
 to:∀ (s:Shared) (us ws:List Value),K.In s.heap→(g us ws).length=ps.length→BindsTo s fd ⟨us,ks.zip ws⟩ (ps.zip (g us ws))
 rel:∀ {vs:List V} {us:List Value} {zs:List V} {ws:List Value},Vals vs us→Vals zs ws→Vals (gV vs zs) (g us ws)
variable {g:List Value→List Value→List Value} {gV:List V→List V→List V}
end
structure FnScope (N P:List Str) (sc:Scope):Prop where
 kind:sc.kind=.function
 co:sc.isCoroutine=false
 gen:sc.isGenerator=false
 nd:N.Nodup
 pre:N.take P.length=P
 par:∀ x∈P,sc.names.lookup x=some .local∨sc.names.lookup x=some .cell
 nofree:∀ y∈sc.names,y.2≠.free
theorem bindL_out {kindOf:Str→Option NameKind} {x:Str}:∀ {binds:List (Str × Value)} {m:Str→Option Value},(∀ v,(x,v) ∉ binds)→bindL kindOf binds m x=m x
 | [],_,_=>rfl
 | (n,v) :: r,m,h=>by
  unfold bindL
  rw [bindL_out fun w hw=>h w (List.mem_cons_of_mem _ hw)]
  split
  ·have:x≠n:=by rintro rfl;exact h v List.mem_cons_self
   simp [this]
  ·rfl
theorem bindC_out {kindOf:Str→Option NameKind} {x:Str}:∀ {binds:List (Str × Value)} {m:Str→Option Value},(∀ v,(x,v) ∉ binds)→bindC kindOf binds m x=m x
 | [],_,_=>rfl
 | (n,v) :: r,m,h=>by
  unfold bindC
  rw [bindC_out fun w hw=>h w (List.mem_cons_of_mem _ hw)]
  split
  ·rfl
  ·have:x≠n:=by rintro rfl;exact h v List.mem_cons_self
   simp [this]
theorem bindL_get {kindOf:Str→Option NameKind} {x:Str} {v:Value}:∀ {P:List Str} {vs:List Value} {i:Nat} {m:Str→Option Value},P.Nodup→P[i]?=some x→vs[i]?=some v→kindOf x=some .local →
  bindL kindOf (P.zip vs) m x=some v
 | [],_,_,_,_,h,_,_=>by simp at h
 | _ :: _,[],_,_,_,_,h,_=>by simp at h
 | p :: P,w :: vs,0,m,nd,h1,h2,hk=>by
  simp at h1 h2;subst h1;subst h2
  show bindL kindOf ((p,w) :: P.zip vs) m p=_
  unfold bindL
  rw [bindL_out fun v hv=>(List.nodup_cons.mp nd).1 (List.of_mem_zip hv).1,if_pos hk]
  simp
 | p :: P,w :: vs,i + 1,m,nd,h1,h2,hk=>by
  show bindL kindOf ((p,w) :: P.zip vs) m x=_
  unfold bindL
  exact bindL_get (i:=i) (List.nodup_cons.mp nd).2 (by simpa using h1) (by simpa using h2) hk
theorem bindC_get {kindOf:Str→Option NameKind} {x:Str} {v:Value}:∀ {P:List Str} {vs:List Value} {i:Nat} {m:Str→Option Value},P.Nodup→P[i]?=some x→vs[i]?=some v→kindOf x≠some .local →
  bindC kindOf (P.zip vs) m x=some v
 | [],_,_,_,_,h,_,_=>by simp at h
 | _ :: _,[],_,_,_,_,h,_=>by simp at h
 | p :: P,w :: vs,0,m,nd,h1,h2,hk=>by
  simp at h1 h2;subst h1;subst h2
  show bindC kindOf ((p,w) :: P.zip vs) m p=_
  unfold bindC
  rw [bindC_out fun v hv=>(List.nodup_cons.mp nd).1 (List.of_mem_zip hv).1,if_neg hk]
  simp
 | p :: P,w :: vs,i + 1,m,nd,h1,h2,hk=>by
  show bindC kindOf ((p,w) :: P.zip vs) m x=_
  unfold bindC
  exact bindC_get (i:=i) (List.nodup_cons.mp nd).2 (by simpa using h1) (by simpa using h2) hk
def start (N:List Str) (vs:List V):St:=vs.map some ++ List.replicate (N.length - vs.length) none
def cxOf (CX:CXT) (P:Program) (w:World) (K:PySem.W.Frag) (mg:Str→Option Value) (base:Heap) (N:List Str) (qual:Str) (scope:Scope) (f:Addr) (cd:Value) (A:Around) (outer:List Env) (s:Shared) (H:Hp) (E:XK):Cx where
 prog:=P
 w:=w
 K:=K
 mg:=mg
 base:=base
 A:=A.deeper (envOfC qual scope s.heap.objs.size f cd)
 N:=N
 s₀:=s
 H₀:=H
 env:=envOfC qual scope s.heap.objs.size f cd
 outer:=outer
 stack:=envOfC qual scope s.heap.objs.size f cd :: outer
 ex:=[]
 calm:=true
 fn:=fun _=>true
 pn:=[]
 xe:=fun e s'=>wpAny (model P w) (A.deeper (envOfC qual scope s.heap.objs.size f cd)) (leaving (envOfC qual scope s.heap.objs.size f cd) e) (fun _ s''=>CX outer H s E e s'') (fun e' s''=>CX outer H s E e' s'') s'
theorem cell_has {sc:Scope} {n:Nat} {x:Str} (h:sc.names.lookup x=some .cell):∃ c,(cellsFrom n sc.names []).lookup x=some c:=by
 have q:=PySem.W.cellsFrom_some sc.names n [] (.inl h)
 exact Option.isSome_iff_exists.mp q
theorem inv_start {CX:CXT} {P:Program} {w:World} {K:PySem.W.Frag} {mg:Str→Option Value} {base:Heap} {N ps:List Str} {qual:Str} {scope:Scope} {f:Addr} {cd:Value} {A:Around} {outer:List Env} {s s1:Shared} {H:Hp} {E:XK} {us:List Value} {vs:List V}
  (S:FnScope N ps scope) (hd:A.handled=none) (e0:Env0 P w K mg base A outer s H) (hl:vs.length=ps.length) (r:Vals vs us)
  (x:InCallC s s.heap.objs.size (bindL (envOfC qual scope s.heap.objs.size f cd).kindOf (ps.zip us) fun _=>none) (cellsFrom (s.heap.objs.size + 1) scope.names []) (bindC (envOfC qual scope s.heap.objs.size f cd).kindOf (ps.zip us) fun _=>none) s1) :
  Inv (cxOf CX P w K mg base N qual scope f cd A outer s H E) [] (start N vs) H s1:=by
 have hpl:ps.length≤N.length:=by have:=congrArg List.length S.pre;rw [List.length_take] at this;omega
 obtain ⟨h1,tk,rfl,hk⟩:=x.done
 have noA:∀ b:Addr,b ∉ (cxOf CX P w K mg base N qual scope f cd A outer s H E).ex:=fun b z=>absurd (show b∈([]:List Addr) from z) (by simp)
 refine ⟨⟨e0.mod,S.kind,rfl,rfl,Nat.le_refl _,fun y z c h1 h2=>?_,fun y hy=>?_,fun y c _ h=>?_,fun _=>hd,Around.frames_deeper e0.frames,.inr ⟨rfl,rfl⟩,fun b z=>absurd z (noA b),e0.bs,e0.bsz,fun b _ _=>noA b,fun b z=>absurd z (noA b),e0.funs,e0.frf⟩,
  rfl,e0.bare,Un.kept hk,⟨_,x.toInCall.ns,fun i y v h1 h2 h3=>?_⟩,fun y c h=>⟨_,x.cell y c h⟩,e0.hok.fresh (Nat.le_refl _),fun y c h=>?_,fun p hp=>absurd (show p∈([]:List (Addr × Obj)) from hp) (by simp),e0.hok.kept hk,?_⟩
 ·exact name_of_addr x.apart (PySem.mem_of_lookup h1) (PySem.mem_of_lookup h2)
 ·have hy:scope.names.lookup y=some .cell∨scope.names.lookup y=some .free:=hy
  rcases hy with hy | hy
  ·exact cell_has hy
  ·exact absurd rfl (S.nofree _ (PySem.mem_of_lookup hy))
 ·exact Nat.le_of_lt (x.above y c (PySem.mem_of_lookup h))
 ·have hi:i < vs.length:=by
   unfold start at h2
   by_cases hi:i < vs.length
   ·exact hi
   ·rw [List.getElem?_append_right (by simpa using hi)] at h2
    rw [List.getElem?_replicate] at h2
    split at h2 <;> cases h2
  have ha:vs[i]?=some v:=by
   unfold start at h2
   rw [List.getElem?_append_left (by simpa using hi),List.getElem?_map] at h2
   cases e:vs[i]? with
   | none=>rw [e] at h2;cases h2
   | some a=>rw [e] at h2;cases h2;rfl
  obtain ⟨u,hu,rv⟩:=r.get ha
  have hp:ps[i]?=some y:=by
   rw [← S.pre,List.getElem?_take_of_lt (by omega)];exact h1
  have ndP:ps.Nodup:=by rw [← S.pre];exact S.nd.sublist (List.take_sublist _ _)
  refine ⟨u,rv,?_⟩
  rcases S.par y (List.mem_of_getElem? hp) with k | k
  ·exact .inl ⟨k,bindL_get ndP hp hu k⟩
  ·obtain ⟨c,e⟩:=cell_has (n:=s.heap.objs.size + 1) k
   refine .inr ⟨.inl k,c,e,?_⟩
   have q:=x.cell y c e
   rw [bindC_get ndP hp hu (by show scope.names.lookup y≠_;rw [k];decide)] at q
   exact q
 ·exact e0.hok.fresh (Nat.le_of_lt (x.above y c (PySem.mem_of_lookup h)))
 ·unfold start
  show _=N.length
  rw [List.length_append,List.length_map,List.length_replicate]
  omega
theorem fn_of {CX:CXT} {P:Program} {w:World} {K:PySem.W.Frag} {mg:Str→Option Value} {base:Heap} {k:Nat} {f:Addr} {name qual:Str} {params:Arguments} {body:List Stmt} {scope:Scope} {dV kV doc pm cdv ct oc:Value} {an od:Option Addr}
  {osl:Array (Option Value)} {N ps:List Str} {sp:Sp} (lk:K.lookup f=some ⟨oc,od,.func (PySem.W.fnOf name qual params body scope dV kV doc pm an cdv ct),osl⟩) (hcd:PySem.W.codeIn K cdv qual=true) (S:FnScope N ps scope)
  (len:∀ vs H Q E,sp vs H Q E→vs.length=ps.length)
  (hbody:∀ (A:Around) (outer:List Env) (s:Shared) (H:Hp) (vs:List V) (Q:VK) (E:XK),Room k (A.deeper (envOfC qual scope s.heap.objs.size f cdv))→sp vs H Q E →
   ∃ t,PSs (cxOf CX P w K mg base N qual scope f cdv A outer s H E) body t∧t { nx:=fun _ H'=>Q .non H',rt:=Q } (start N vs) H) :
  FnOk P w K mg base CX (k + 1) f (PySem.W.fnOf name qual params body scope dV kV doc pm an cdv ct) ps sp:=by
 refine ⟨len,fun A outer s H args us vs Q E hr e0 hb r hsp=>?_⟩
 have hl:=len _ _ _ _ hsp
 have KX:K.In s.heap:=e0.mod.kin.keeps fun b o e=>(e0.bs b o e).1
 have lim:s.heap.NoLimit:=e0.mod.nolimit.keeps fun b o e=>(e0.bs b o e).1
 have hkind:∀ y∈ps.zip us,scope.names.lookup y.1=some .local∨(scope.names.lookup y.1=some .cell∧((cellsFrom (s.heap.objs.size + 1) scope.names []).lookup y.1).isSome=true):=fun ⟨n,v⟩ hy=>by
  rcases S.par n (List.of_mem_zip hy).1 with q | q
  ·exact .inl q
  ·exact .inr ⟨q,PySem.W.cellsFrom_some _ _ _ (.inl q)⟩
 refine codeAny_call_function hr.depth (KX _ _ lk) rfl S.co S.gen rfl (PySem.W.codeRec_of KX hcd) (hb _ _ _ _ ?_)
 refine wpAny_newFunctionEnv_cells S.kind hkind fun env he s1 x=>?_
 subst he
 refine ⟨lim.keeps x.toInCall.keep,codeAny_func ?_⟩
 obtain ⟨t,ht,hq⟩:=hbody A outer s H vs Q E (hr.deeper _) hsp
 have I:Inv (cxOf CX P w K mg base N qual scope f cdv A outer s H E) [] (start N vs) H s1:=inv_start S hr.hd e0 hl r x
 refine wpAny_mono (ht [] s1 (start N vs) H _ I hq) (fun fl s' hs=>?_) fun e s' hs=>hs
 have fin:∀ {σ':St} {H':Hp} {v:V} {u:Value},Inv (cxOf CX P w K mg base N qual scope f cdv A outer s H E) [] σ' H' s'→RelV v u→Q v H'→CE outer P w H s Q u s':=
  fun {σ' H' v u} J rv q=>⟨v,H',J.os,J.bare,J.base,J.hok,rv,q⟩
 cases fl with
 | ret u=>
  obtain ⟨v,σ',H',J,rv,q⟩:=hs
  exact fin J rv q
 | next=>
  obtain ⟨σ',H',J,q⟩:=hs
  exact fin (v:=V.non) (u:=Value.none) J rfl q
 | brk=>
  obtain ⟨_,_,_,q⟩:=hs
  exact False.elim q
 | cont=>
  obtain ⟨_,_,_,q⟩:=hs
  exact False.elim q
end L2
namespace L2
open PySem PySem.Spec PyProof.Rows
section
variable {X:Cx} {x:Str} {p pos:Pos} {e:Expr} {es:List Expr} {t:TA} {id T:String} {r:List V→Hp→VK→Prop}
def tCB (r:List V→Hp→VK→Prop) (t:TA):TE:=fun σ H Q=>t σ H fun vs H1=>r vs H1 Q
theorem pe_callB (hc:CallR X (.builtin id) r) (hg:Gl X x) (hm:X.mg x=none) (hv:bootBuiltins x=some (.builtin id)) (ha:PA X (e :: es) t) (hn:x≠"__name__":=by decide) (hdb:(x == ("__debug__":Str))=false:=by decide)
  (he:starEach (e :: es) X.env=(false,eval e X.env) :: starEach es X.env:=by rfl) (hpl:(backTo pos (starEach es X.env)).any (·.1)=false:=by rfl):PE X (.Call (.Name x p) (e :: es) [] pos) (tCB r t):=by
 intro pins s σ H Q I h
 refine wpAny_Call_Name_kw (ld_blt I hg hm hv ?_ hn hdb)
 exact PyProof.Rows.callWith_builtin1 (thn (ha pos pins s σ H _ I h) fun us s1 ⟨vs,H1,I1,r1,q1⟩=>hc pins s1 σ H1 vs us Q I1 r1 q1) he hpl
theorem pe_callTy (hc:CallR X (.type T) r) (hg:Gl X x) (hm:X.mg x=none) (hv:bootBuiltins x=some (.type T)) (ha:PA X (e :: es) t) (hn:x≠"__name__":=by decide) (hdb:(x == ("__debug__":Str))=false:=by decide)
  (he:starEach (e :: es) X.env=(false,eval e X.env) :: starEach es X.env:=by rfl) (hpl:(backTo pos (starEach es X.env)).any (·.1)=false:=by rfl):PE X (.Call (.Name x p) (e :: es) [] pos) (tCB r t):=by
 intro pins s σ H Q I h
 refine wpAny_Call_Name_kw (ld_blt I hg hm hv ?_ hn hdb)
 exact PyProof.Rows.callWith_type1 (thn (ha pos pins s σ H _ I h) fun us s1 ⟨vs,H1,I1,r1,q1⟩=>hc pins s1 σ H1 vs us Q I1 r1 q1) he hpl
end
end L2
namespace HT
open PySem PyProof.Rows
def lexLt:List Int→List Int→Bool
 | [],[]=>false
 | [],_ :: _=>true
 | _ :: _,[]=>false
 | x :: xs,y :: ys=>if x=y then lexLt xs ys else decide (x < y)
section
open PySem.SeqAt
open PySem.AutoSeq1 (wpAny_loadPart')
open PySem.MeetsSeq PySem.MeetsSeq2 PySem.MeetsSeq3
end
section
variable {prog:Program} {w:World} {A:Around} {E:Value→Shared→Prop} {s:Shared}
theorem cat_tup {t b:Addr} {vs ws:List Value} {Q:Value→Shared→Prop} (ht:IsTup s.heap t vs.toArray) (hb:IsTup s.heap b ws.toArray) (hv:vs≠[])
  (h1:ws=[]→Q (.ref t) s) (h2:ws≠[]→Q (.ref s.heap.objs.size) { s with heap:=s.heap.push { cls:=.type "tuple",data:=.seq (vs ++ ws).toArray } })
  (hsz:vs.length + ws.length≤sizeLine):wpAny (model prog w) A (binaryOp .Add (.ref t) (.ref b)) Q E s:=by
 obtain ⟨⟨cls,dd,data,sl⟩,ho,hc,n,hd⟩:=id ht
 obtain ⟨⟨cls2,dd2,data2,sl2⟩,ho2,hc2,n2,hd2⟩:=id hb
 simp only at hc hd hc2 hd2
 subst hc hd hc2 hd2
 have e:vs.toArray ++ ws.toArray=(vs ++ ws).toArray:=by simp
 by_cases hw:ws=[]
 ·exact concat_meets ⟨_,ho,rfl⟩ ⟨_,ho2,rfl⟩ noFill_tuple_add seq_tuple_add PySem.F.slot_tuple_add PySem.F.entry_tuple_add (PySem.F.args_tuple_add_2 _ _)
   (tuple_addW1 t b vs.toArray ws.toArray n n2 dd dd2 sl sl2 (by simpa using hv) (by simp [hw])) ⟨ho,ho2,h1 hw⟩
 ·refine concat_meets ⟨_,ho,rfl⟩ ⟨_,ho2,rfl⟩ noFill_tuple_add seq_tuple_add PySem.F.slot_tuple_add PySem.F.entry_tuple_add (PySem.F.args_tuple_add_2 _ _)
   (tuple_addW2 t b vs.toArray ws.toArray n n2 dd dd2 sl sl2 (by simpa using hv) (by simpa using hw) (by rw [List.size_toArray,List.size_toArray];exact hsz)) ⟨ho,ho2,?_⟩
  rw [e]
  exact h2 hw
def sIx (n d:Nat):Option Int→Nat
 | none=>d
 | some v=>if v < 0 then (v + (n:Int)).toNat else min v.toNat n
theorem sIx_nat (n d k:Nat):sIx n d (some (k:Int))=min k n:=by
 show (if (k:Int) < 0 then ((k:Int) + (n:Int)).toNat else min (k:Int).toNat n)=min k n
 rw [if_neg (by omega),Int.toNat_natCast]
end
end HT
namespace L2
open PySem PySem.Spec PyProof.Rows
abbrev TO:=St→Hp→(Option Int→Hp→Prop)→Prop
def PO (X:Cx) (e:Option Expr) (t:TO):Prop:=
 ∀ (pins:List (Addr × Obj)) (s:Shared) (σ:St) (H:Hp) (Q:Option Int→Hp→Prop),Inv X pins σ H s→t σ H Q →
  wpAny (model X.prog X.w) X.A (evalPart e X.env) (fun u s'=>∃ o H',Inv X pins σ H' s'∧IsPart u o∧Q o H') X.xe s
def tNoPart:TO:=fun _ H Q=>Q none H
def tPart (t:TE):TO:=fun σ H Q=>t σ H fun x H1=>∃ i,x=.int i∧Q (some i) H1
section
variable {X:Cx} {e:Expr} {te:TE} {lo hi:Option Expr} {tl th:TO} {pos p2:Pos}
theorem po_none:PO X none tNoPart:=by
 intro pins s σ H Q I h
 rw [evalPart_none]
 exact wpAny_pure ⟨none,H,I,.none,h⟩
theorem po_some (h:PE X e te):PO X (some e) (tPart te):=by
 intro pins s σ H Q I hw
 rw [evalPart_some]
 refine thn (h pins s σ H _ I hw) fun u s1 ⟨x,H1,I1,r1,q1⟩=>?_
 obtain ⟨i,rfl,q⟩:=q1
 obtain ⟨t,rfl⟩:=r1
 exact ⟨some i,H1,I1,.int i t,q⟩
def SlR (X:Cx) (r:V→Option Int→Option Int→Hp→VK→Prop):Prop:=
 ∀ (pins:List (Addr × Obj)) (s:Shared) (σ:St) (H:Hp) (x:V) (v vl vu:Value) (lo hi:Option Int) (sl:Addr) (Q:VK),Inv X pins σ H s→RelV x v→s.heap.IsSliceOf sl vl vu .none→IsPart vl lo→IsPart vu hi→r x lo hi H Q →
  ∃ T id,typeLookup (.type T) "__getitem__" = pure (some (.builtin id))∧s.TypeIs v T∧wpAny (model X.prog X.w) X.A (getItem v (.ref sl)) (EP X pins σ Q) X.xe s
theorem SlR.or {r r':V→Option Int→Option Int→Hp→VK→Prop} (h:SlR X r) (h':SlR X r'):SlR X (fun x lo hi H Q=>r x lo hi H Q∨r' x lo hi H Q):=by
 intro pins s σ H x v vl vu lo hi sl Q I rx hs pl pu q
 rcases q with q | q
 ·exact h pins s σ H x v vl vu lo hi sl Q I rx hs pl pu q
 ·exact h' pins s σ H x v vl vu lo hi sl Q I rx hs pl pu q
def tSl (r:V→Option Int→Option Int→Hp→VK→Prop) (te:TE) (tl th:TO):TE:=fun σ H Q=>te σ H fun x H1=>tl σ H1 fun l H2=>th σ H2 fun u H3=>r x l u H3 Q
theorem pe_slice {r:V→Option Int→Option Int→Hp→VK→Prop} (hr:SlR X r) (he:PE X e te) (hl:PO X lo tl) (hu:PO X hi th):PE X (.Subscript e (.Slice lo hi none p2) pos) (tSl r te tl th):=by
 intro pins s σ H Q I h
 refine Subscript_ (thn (he pins s σ H _ I h) fun v s1 ⟨x,H1,I1,r1,q1⟩=>?_)
 refine wpAny_Slice (thn (hl pins s1 σ H1 _ I1 q1) fun vl s2 ⟨l,H2,I2,pl,q2⟩=>thn (hu pins s2 σ H2 _ I2 q2) fun vu s3 ⟨u,H3,I3,pu,q3⟩=>?_)
 rw [evalPart_none]
 refine wpAny_pure ?_
 have I4:Inv X pins σ H3 { s3 with heap:=s3.heap.push { cls:=.type "slice",data:=.fields #[vl,vu,.none] } }:=I3.kept (t':=s3.toks) fun b ob q=>Heap.get?_push_of_some _ q
 obtain ⟨T,id,hT,ht,hg⟩:=hr pins { s3 with heap:=s3.heap.push { cls:=.type "slice",data:=.fields #[vl,vu,.none] } } σ H3 x v vl vu l u s3.heap.objs.size Q I4 r1 (Heap.IsSliceOf.new ..) pl pu q3
 show wpAny (model X.prog X.w) X.A (subscriptTail e (.Slice lo hi none p2) v (.ref s3.heap.objs.size)) (EP X pins σ Q) X.xe { s3 with heap:=s3.heap.push { cls:=.type "slice",data:=.fields #[vl,vu,.none] } }
 exact tail_any (ops:=[.ref s3.heap.objs.size,v]) ht hT hg (by with_unfolding_all rfl)
def cutV (xs:List V) (lo hi:Option Int):List V:=(xs.drop (HT.sIx xs.length 0 lo)).take (HT.sIx xs.length xs.length hi - HT.sIx xs.length 0 lo)
theorem cutV_length (xs:List V) (lo hi:Option Int):(cutV xs lo hi).length≤xs.length:=by
 unfold cutV
 rw [List.length_take,List.length_drop]
 omega
def rSlT (K:PySem.W.Frag):V→Option Int→Option Int→Hp→VK→Prop:=fun x lo hi H Q=>∃ a xs,x=.ref a∧SqT K H a xs ∧
 ¬ (HT.sIx xs.length 0 lo=0∧HT.sIx xs.length xs.length hi=xs.length)∧∀ p,H p=none→Q (.ref p) (upd H p (.tup (cutV xs lo hi)))
def rLtT (K:PySem.W.Frag):R2:=fun x y H Q=>∃ a b ns ms,x=.ref a∧y=.ref b∧SqT K H a (ns.map V.int)∧SqT K H b (ms.map V.int)∧Q (.bl (HT.lexLt ns ms)) H
def rCatT (K:PySem.W.Frag):R2:=fun x y H Q=>∃ a b xs ys,x=.ref a∧y=.ref b∧SqT K H a xs∧SqT K H b ys∧xs≠[]∧xs.length + ys.length≤sizeLine ∧
 (ys=[]→Q (.ref a) H)∧(ys≠[]→∀ p,H p=none→Q (.ref p) (upd H p (.tup (xs ++ ys))))
theorem Vals.nil_iff {xs:List V} {us:List Value} (r:Vals xs us):us=[]↔xs=[]:=by
 cases r with
 | nil=>simp
 | cons _ _=>simp
theorem op_catT:OpR X (binaryOp .Add) (rCatT X.K):=by
 intro pins s σ H x y v u Q I rx ry h
 obtain ⟨a,b,xs,ys,rfl,rfl,ha,hb,hx,hz,q1,q2⟩:=h
 cases rx
 cases ry
 obtain ⟨its,r1,p1,_⟩:=I.tuple ha
 obtain ⟨its2,r2,p2,_⟩:=I.tuple hb
 refine HT.cat_tup p1 p2 (fun z=>hx (r1.nil_iff.mp z)) (fun z=>⟨.ref a,H,I,rfl,q1 (r2.nil_iff.mp z)⟩) (fun z=>?_) (by rw [← r1.length,← r2.length];exact hz)
 refine ⟨.ref s.heap.objs.size,_,I.laid (t':=s.toks) (o:=.tup (xs ++ ys)) (fun b ob q=>Heap.get?_push_of_some _ q) (Nat.le_refl _) ?_,rfl,q2 (fun w=>z (r2.nil_iff.mpr w)) _ (I.hok.fresh (Nat.le_refl _))⟩
 exact ⟨by rw [List.length_append];exact hz,_,r1.append r2,IsTup.new _ _⟩
end
end L2
namespace L2
open PySem PySem.Spec PyProof.Rows
def ixN (n:Nat) (i:Int):Option Nat:=if 0≤i then (if i < n then some i.toNat else none) else if -(n:Int)≤i then some (i + n).toNat else none
def atI {α:Type} (xs:List α) (i:Int):Option α:=(ixN xs.length i).bind fun j=>xs[j]?
theorem ixN_seq {n:Nat} {i:Int} {j:Nat} (h:ixN n i=some j):seqIndex? i n=some j∧j < n∧-(n:Int)≤i∧i < n:=by
 unfold ixN at h
 by_cases h0:0≤i
 ·rw [if_pos h0] at h
  by_cases h1:i < n
  ·rw [if_pos h1] at h
   have e:i.toNat=j:=Option.some.inj h
   exact ⟨by rw [seqIndex_of h0 h1,e],by omega,by omega,h1⟩
  ·rw [if_neg h1] at h;cases h
 ·rw [if_neg h0] at h
  by_cases h1:-(n:Int)≤i
  ·rw [if_pos h1] at h
   have e:(i + n).toNat=j:=Option.some.inj h
   exact ⟨by rw [seqIndex_neg (by omega) h1,e],by omega,h1,by omega⟩
  ·rw [if_neg h1] at h;cases h
theorem atI_get {α:Type} {xs:List α} {i:Int} {v:α} (h:atI xs i=some v):∃ j,seqIndex? i xs.length=some j∧xs[j]?=some v∧j < xs.length∧-(xs.length:Int)≤i∧i < xs.length:=by
 unfold atI at h
 cases e:ixN xs.length i with
 | none=>rw [e] at h;cases h
 | some j=>
  rw [e] at h
  obtain ⟨h1,h2,h3,h4⟩:=ixN_seq e
  exact ⟨j,h1,h,h2,h3,h4⟩
theorem atI_nat {α:Type} {xs:List α} {j:Nat} {v:α} (h:xs[j]?=some v):atI xs (j:Int)=some v:=by
 have hj:j < xs.length:=(List.getElem?_eq_some_iff.mp h).1
 have e:ixN xs.length (j:Int)=some j:=by
  unfold ixN
  rw [if_pos (by omega),if_pos (by omega)];simp
 unfold atI;rw [e];exact h
def PlainIx (b:Expr):Prop:=∀ o i,subscripted b false o i=operate [o,i] (getItem o i)
def IxR (X:Cx) (r:R2):Prop:=
 ∀ (value slice:Expr) (pins:List (Addr × Obj)) (s:Shared) (σ:St) (H:Hp) (x y:V) (v u:Value) (Q:VK),Inv X pins σ H s→RelV x v→RelV y u→r x y H Q →
  subscripted slice false v u=operate [v,u] (getItem v u)→wpAny (model X.prog X.w) X.A (subscriptTail value slice v u) (EP X pins σ Q) X.xe s
def MtR (X:Cx) (id:String) (r:V→List V→Hp→VK→Prop):Prop:=
 ∀ (pins:List (Addr × Obj)) (s:Shared) (σ:St) (H:Hp) (x:V) (xs:List V) (v:Value) (us:List Value) (Q:VK),Inv X pins σ H s→RelV x v→Vals xs us→r x xs H Q →
  wpAny (model X.prog X.w) X.A (call (.builtin id) (v :: us)) (EP X pins σ Q) X.xe s
section
variable {X:Cx} {a b:Expr} {ta tb:TE} {pos:Pos}
theorem IxR.or {r r':R2} (h:IxR X r) (h':IxR X r'):IxR X (fun x y H Q=>r x y H Q∨r' x y H Q):=by
 intro value slice pins s σ H x y v u Q I rx ry q hs
 rcases q with q | q
 ·exact h value slice pins s σ H x y v u Q I rx ry q hs
 ·exact h' value slice pins s σ H x y v u Q I rx ry q hs
theorem MtR.or {id:String} {r r':V→List V→Hp→VK→Prop} (h:MtR X id r) (h':MtR X id r'):MtR X id (fun x xs H Q=>r x xs H Q∨r' x xs H Q):=by
 intro pins s σ H x xs v us Q I rx rs q
 rcases q with q | q
 ·exact h pins s σ H x xs v us Q I rx rs q
 ·exact h' pins s σ H x xs v us Q I rx rs q
theorem pe_ix {r:R2} (hr:IxR X r) (ha:PE X a ta) (hb:PE X b tb) (hs:PlainIx b):PE X (.Subscript a b pos) (tOp r ta tb):=by
 intro pins s σ H Q I h
 exact Subscript_ (binT ha hb I h fun v u s2 x y H2 I2 rx ry q=>hr a b pins s2 σ H2 x y v u Q I2 rx ry q (hs _ _))
def rIxL (K:PySem.W.Frag):R2:=fun x y H Q=>∃ p xs i v,x=.ref p∧y=.int i∧SqL K H p xs∧atI xs i=some v∧Q v H
def rIxT (K:PySem.W.Frag):R2:=fun x y H Q=>∃ p xs i v,x=.ref p∧y=.int i∧SqT K H p xs∧atI xs i=some v∧Q v H
def rIxS:R2:=fun x y H Q=>∃ z i c,x=.str z∧y=.int i∧z.length≤sizeLine∧atI z.cps.toList i=some c∧Q (.str ⟨#[c]⟩) H
theorem ix_list:IxR X (rIxL X.K):=by
 intro value slice pins s σ H x y v u Q I rx ry h hs
 obtain ⟨p,xs,i,z,rfl,rfl,hq,he,q⟩:=h
 cases rx
 obtain ⟨t,rfl⟩:=ry
 obtain ⟨its,r,pl,hz⟩:=I.list hq
 obtain ⟨j,h1,h2,h3,h4,h5⟩:=atI_get he
 obtain ⟨w,ew,rw'⟩:=r.get h2
 have hl:=r.length
 have hn:=line63
 have fin:EP X pins σ Q w s:=⟨z,H,I,rw',q⟩
 by_cases h0:0≤i
 ·have hj:i.toNat=j:=by
   rw [seqIndex_of h0 h5] at h1
   exact Option.some.inj h1
  exact item_listR pl.isList h0 (by omega) (by rw [hj];simpa using ew) fin hs
 ·have hj:(i + (its.toArray.size:Int)).toNat=j:=by
   rw [seqIndex_neg (by omega) h4] at h1
   rw [List.size_toArray,← hl]
   exact Option.some.inj h1
  exact subscriptTail_builtinR (x:=w) pl.isList.typeIs slot_list_getitem.lookup
   (wpAny_getItem_list_neg (Q:=fun r s'=>r=w∧EP X pins σ Q r s') pl.isList (by omega) (by rw [List.size_toArray] <;> omega) (by omega) (by rw [hj];simpa using ew) ⟨rfl,fin⟩) hs
theorem ix_tup:IxR X (rIxT X.K):=by
 intro value slice pins s σ H x y v u Q I rx ry h hs
 obtain ⟨p,xs,i,z,rfl,rfl,hq,he,q⟩:=h
 cases rx
 obtain ⟨t,rfl⟩:=ry
 obtain ⟨its,r,pl,hz⟩:=I.tuple hq
 obtain ⟨j,h1,h2,h3,h4,h5⟩:=atI_get he
 obtain ⟨w,ew,rw'⟩:=r.get h2
 have hl:=r.length
 have hn:=line63
 have fin:EP X pins σ Q w s:=⟨z,H,I,rw',q⟩
 exact subscriptTail_builtinR (x:=w) pl.typeIs slot_tuple_getitem.lookup
  (getItem_tuple (j:=j) (Q:=fun r s'=>r=w∧EP X pins σ Q r s') pl (by omega) (by omega) (by rw [List.size_toArray,← hl];exact h1) (by simpa using ew) ⟨rfl,fin⟩) hs
theorem ix_str:IxR X rIxS:=by
 intro value slice pins s σ H x y v u Q I rx ry h hs
 obtain ⟨z,i,c,rfl,rfl,hz,he,q⟩:=h
 obtain ⟨t,rfl⟩:=rx
 obtain ⟨t',rfl⟩:=ry
 obtain ⟨j,h1,h2,h3,h4,h5⟩:=atI_get he
 have hl:z.cps.toList.length=z.length:=by simp [Str.length]
 rw [hl] at h1 h4 h5
 have hn:=line63
 exact tail_any (typeIs_str s z t) slot_str_getitem.lookup (getItem_str (c:=c) (by
  have e1:decide (i < -(2 ^ 63:Int))=false:=decide_eq_false (by omega)
  have e2:decide (i ≥ 2 ^ 63)=false:=decide_eq_false (by omega)
  rw [e1,e2,Bool.or_false]) (by rw [h1];simpa using h2) ⟨.str ⟨#[c]⟩,H,I.tok _,⟨_,rfl⟩,q⟩) hs
theorem mapSeq_set (its:List Value) (n j:Nat) (u:Value):Obj.mapSeq (·.setIfInBounds j u) { cls:=.type "list",data:=.seq its.toArray n } = { cls:=.type "list",data:=.seq (its.set j u).toArray n }:=by
 simp [Obj.mapSeq]
theorem Inv.lst {pins:List (Addr × Obj)} {σ:St} {H:Hp} {s:Shared} {p:Addr} {xs:List V} (I:Inv X pins σ H s) (h:H p=some (.lst xs)) :
  ∃ (its:List Value) (n:Nat),Vals xs its∧s.heap.get? p=some { cls:=.type "list",data:=.seq its.toArray n }∧xs.length≤sizeLine:=by
 obtain ⟨z,its,n,r,e⟩:=I.hok p _ h
 exact ⟨its,n,r,e,z⟩
theorem Inv.lstUpd {pins:List (Addr × Obj)} {σ:St} {H:Hp} {s:Shared} {p:Addr} {xs ys:List V} {its its':List Value} {n n':Nat} {f:Obj→Obj} (I:Inv X pins σ H s) (h:H p=some (.lst xs))
  (ho:s.heap.get? p=some { cls:=.type "list",data:=.seq its.toArray n }) (hf:f { cls:=.type "list",data:=.seq its.toArray n } = { cls:=.type "list",data:=.seq its'.toArray n' }) (r:Vals ys its') (hz:ys.length≤sizeLine) (t:Nat) :
  Inv X pins σ (upd H p (.lst ys)) { s with heap:=s.heap.update p f,toks:=t }:=by
 have e:(s.heap.update p f).get? p=some { cls:=.type "list",data:=.seq its'.toArray n' }:=by
  rw [Heap.get?_update_self f ho (by rw [hf] <;> rfl),hf]
 refine I.write (x:=p) (e:=p) (by rw [h];trivial) (.inl rfl) (fun b u hb q=>(Heap.get?_update_other _ _ (Ne.symm hb)).trans q) ⟨_,e⟩ ?_
 exact ⟨hz,its',n',r,e⟩
def rSetL:V→V→V→Hp→(Hp→Prop)→Prop:=fun o i v H Q=>∃ p xs k j,o=.ref p∧i=.int k∧H p=some (.lst xs)∧ixN xs.length k=some j∧Q (upd H p (.lst (xs.set j v)))
theorem set_list:PSet X rSetL:=by
 intro pins s σ H o i v ov iv u Q I ro ri rv h
 obtain ⟨p,xs,k,j,rfl,rfl,hp,hj,q⟩:=h
 cases ro
 obtain ⟨t,rfl⟩:=ri
 obtain ⟨its,n,r,ho,hz⟩:=I.lst hp
 obtain ⟨h1,h2,h3,h4⟩:=ixN_seq hj
 have hl:=r.length
 have hn:=line63
 have I':Inv X pins σ (upd H p (.lst (xs.set j v))) { s with heap:=s.heap.update p (Obj.mapSeq (·.setIfInBounds j u)) }:=
  I.lstUpd hp ho (mapSeq_set its n j u) (r.set rv j) (by rw [List.length_set];exact hz) s.toks
 by_cases h0:0≤k
 ·have hk:k.toNat=j:=by
   rw [seqIndex_of h0 h4] at h1
   exact Option.some.inj h1
  exact PySem.W.ki_setAt ho h0 (by omega) (by rw [List.size_toArray,← hl];exact h4) (by rw [hk];exact ⟨_,I',q⟩)
 ·have hk:(k + (its.toArray.size:Int)).toNat=j:=by
   rw [seqIndex_neg (by omega) h3] at h1
   rw [List.size_toArray,← hl]
   exact Option.some.inj h1
  exact PySem.W.ki_setBack ho (by omega) (by rw [List.size_toArray,← hl];exact h3) (by omega) (by rw [hk];exact ⟨_,I',q⟩)
theorem slice_bounds (lo hi:Option Int) (n:Nat):(sliceBounds lo hi none n).1=((HT.sIx n 0 lo:Nat):Int)∧(sliceBounds lo hi none n).2.1=((HT.sIx n n hi:Nat):Int)∧(sliceBounds lo hi none n).2.2=1:=by
 refine ⟨?_,?_,rfl⟩
 ·cases lo with
  | none=>simp [sliceBounds,HT.sIx]
  | some i=>
   simp only [sliceBounds,HT.sIx,Option.getD_none,show (1:Int) > 0 by decide,if_true]
   by_cases h:i < 0
   ·simp only [h,if_true] <;> omega
   ·simp only [h,if_false] <;> omega
 ·cases hi with
  | none=>simp [sliceBounds,HT.sIx]
  | some i=>
   simp only [sliceBounds,HT.sIx,Option.getD_none,show (1:Int) > 0 by decide,if_true]
   by_cases h:i < 0
   ·simp only [h,if_true] <;> omega
   ·simp only [h,if_false] <;> omega
theorem slicePick_cut (its:List Value) (lo hi:Option Int):slicePick its.toArray lo hi none=((its.drop (HT.sIx its.length 0 lo)).take (HT.sIx its.length its.length hi - HT.sIx its.length 0 lo)).toArray:=by
 obtain ⟨h1,h2,h3⟩:=slice_bounds lo hi its.toArray.size
 unfold slicePick
 rw [h1,h2,h3]
 simp only [sliceRange_one,pick_run,List.size_toArray] <;> rfl
def rSlL (K:PySem.W.Frag):V→Option Int→Option Int→Hp→VK→Prop:=fun x lo hi H Q=>∃ a xs,x=.ref a∧SqL K H a xs∧∀ p,H p=none→Q (.ref p) (upd H p (.lst (cutV xs lo hi)))
theorem sl_list:SlR X (rSlL X.K):=by
 intro pins s σ H x v vl vu lo hi sl Q I rx hs pl pu h
 obtain ⟨a,xs,rfl,hx,q⟩:=h
 cases rx
 obtain ⟨its,r,ht,hz⟩:=I.list hx
 have hlen:=r.length
 refine ⟨"list",_,slot_list_getitem.lookup,ht.isList.typeIs,?_⟩
 refine wpAny_getItem_list_slice ht.isList hs pl pu .none (by simp) ?_ (by rw [List.size_toArray] <;> omega)
 rw [slicePick_cut,← hlen]
 refine ⟨.ref s.heap.objs.size,_,I.laid (t':=s.toks) (o:=.lst (cutV xs lo hi)) (fun b ob q=>Heap.get?_push_of_some _ q) (Nat.le_refl _) ?_,rfl,q _ (I.hok.fresh (Nat.le_refl _))⟩
 exact ⟨Nat.le_trans (cutV_length xs lo hi) hz,_,0,(r.drop (HT.sIx xs.length 0 lo)).take (HT.sIx xs.length xs.length hi - HT.sIx xs.length 0 lo),Heap.get?_push_size _ rfl⟩
def flatV:V→Bool
 | .non=>true
 | .bl _=>true
 | .int _=>true
 | .str _=>true
 | _=>false
def eqV:V→V→Bool
 | .non,.non=>true
 | .bl a,.bl b=>a == b
 | .bl a,.int b=>(if a then 1 else 0) == b
 | .int a,.bl b=>a == (if b then 1 else 0)
 | .int a,.int b=>a == b
 | .str a,.str b=>a == b
 | _,_=>false
theorem eqAt_V {A:Around} {s:Shared} {y x:V} {u v:Value} (ry:RelV y u) (rx:RelV x v) (fy:flatV y=true) (fx:flatV x=true):SeqAt.EqAt A s u v (eqV y x):=by
 cases y with
 | non=>
  cases ry
  cases x with
  | non=>cases rx;exact SeqAt.EqAt.same _
  | bl b=>cases rx;exact SeqAt.EqAt.none_bool b
  | int b=>obtain ⟨t,rfl⟩:=rx;exact SeqAt.EqAt.none_int b t
  | str b=>obtain ⟨t,rfl⟩:=rx;exact SeqAt.EqAt.none_str b t
  | _=>exact absurd (show false=true from fx) Bool.false_ne_true
 | bl a=>
  cases ry
  cases x with
  | non=>cases rx;exact SeqAt.EqAt.bool_none a
  | bl b=>cases rx;exact SeqAt.EqAt.bool_bool a b
  | int b=>obtain ⟨t,rfl⟩:=rx;exact SeqAt.EqAt.bool_int a b t
  | str b=>obtain ⟨t,rfl⟩:=rx;exact SeqAt.EqAt.bool_str a b t
  | _=>exact absurd (show false=true from fx) Bool.false_ne_true
 | int a=>
  obtain ⟨t',rfl⟩:=ry
  cases x with
  | non=>cases rx;exact SeqAt.EqAt.int_none a t'
  | bl b=>cases rx;exact SeqAt.EqAt.int_bool a t' b
  | int b=>obtain ⟨t,rfl⟩:=rx;exact SeqAt.EqAt.int_int a t' b t
  | str b=>obtain ⟨t,rfl⟩:=rx;exact SeqAt.EqAt.int_str a t' b t
  | _=>exact absurd (show false=true from fx) Bool.false_ne_true
 | str a=>
  obtain ⟨t',rfl⟩:=ry
  cases x with
  | non=>cases rx;exact SeqAt.EqAt.str_none a t'
  | bl b=>cases rx;exact SeqAt.EqAt.str_bool a t' b
  | int b=>obtain ⟨t,rfl⟩:=rx;exact SeqAt.EqAt.str_int a t' b t
  | str b=>obtain ⟨t,rfl⟩:=rx;exact SeqAt.EqAt.str_str a t' b t
  | _=>exact absurd (show false=true from fx) Bool.false_ne_true
 | _=>exact absurd (show false=true from fy) Bool.false_ne_true
theorem call_len_seq:CallR X (.builtin "len") (fun xs H Q=>∃ p ys,xs=[.ref p]∧(SqL X.K H p ys∨SqT X.K H p ys)∧Q (.int ys.length) H):=by
 intro pins s σ H xs us Q I r h
 obtain ⟨p,ys,rfl,hq,q⟩:=h
 obtain ⟨u,rfl,rx⟩:=vals1 r
 cases rx
 have hn:=line63
 rcases hq with hq | hq
 ·obtain ⟨its,r',pl,hz⟩:=I.list hq
  have hlen:=r'.length
  exact Calls.call_len_list pl.isList (by simp only [List.size_toArray] <;> omega) ⟨.int ys.length,H,I.tok _,⟨s.toks + 1,by rw [List.size_toArray,hlen]⟩,q⟩
 ·obtain ⟨its,r',pl,hz⟩:=I.tuple hq
  have hlen:=r'.length
  exact len_tuple pl (by simp only [List.size_toArray] <;> omega) ⟨.int ys.length,H,I.tok _,⟨s.toks + 1,by rw [List.size_toArray,hlen]⟩,q⟩
theorem call_len_str:CallR X (.builtin "len") (fun xs H Q=>∃ z,xs=[.str z]∧z.length≤sizeLine∧Q (.int z.length) H):=by
 intro pins s σ H xs us Q I r h
 obtain ⟨z,rfl,hz,q⟩:=h
 obtain ⟨u,rfl,t,rfl⟩:=vals1 r
 have hn:=line63
 exact len_str (by omega) ⟨.int z.length,H,I.tok _,⟨_,rfl⟩,q⟩
theorem CallR.or {f:Value} {r r':List V→Hp→VK→Prop} (h:CallR X f r) (h':CallR X f r'):CallR X f (fun xs H Q=>r xs H Q∨r' xs H Q):=by
 intro pins s σ H xs us Q I rs q
 rcases q with q | q
 ·exact h pins s σ H xs us Q I rs q
 ·exact h' pins s σ H xs us Q I rs q
theorem call_list_of:CallR X (.type "list") (fun xs H Q=>∃ p ys,xs=[.ref p]∧(SqL X.K H p ys∨SqT X.K H p ys)∧∀ l,H l=none→Q (.ref l) (upd H l (.lst ys))):=by
 intro pins s σ H xs us Q I r h
 obtain ⟨p,ys,rfl,hq,q⟩:=h
 obtain ⟨u,rfl,rx⟩:=vals1 r
 cases rx
 have fin:∀ (its:List Value),Vals ys its→ys.length≤sizeLine→∀ (h':Heap) (c':Nat),(∀ b o',s.heap.get? b=some o'→h'.get? b=some o') →
   h'.get? s.heap.objs.size=some { cls:=.type "list",dict:=none,data:=.seq its.toArray c',slots:=#[] }→EP X pins σ Q (.ref s.heap.objs.size) { s with heap:=h' }:=fun its r' hz h' c' kp e=>
  ⟨.ref s.heap.objs.size,_,I.laid (t':=s.toks) kp (Nat.le_refl _) (show ObjOk X.prog X.w _ h' _ (.lst ys) from ⟨hz,its,c',r',e⟩),rfl,q _ (I.hok.fresh (Nat.le_refl _))⟩
 rcases hq with hq | hq
 ·obtain ⟨its,r',pl,hz⟩:=I.list hq
  have hlen:=r'.length
  obtain ⟨o,ho,hc,n,hd⟩:=pl.isList
  exact call_list_seq p (.inl rfl) ho hc hd (fun h' c' kp e=>fin its r' hz h' c' kp e) (by simp only [List.size_toArray] <;> omega)
 ·obtain ⟨its,r',pl,hz⟩:=I.tuple hq
  have hlen:=r'.length
  obtain ⟨o,ho,hc,n,hd⟩:=pl
  exact call_list_seq p (.inr rfl) ho hc hd (fun h' c' kp e=>fin its r' hz h' c' kp e) (by simp only [List.size_toArray] <;> omega)
theorem call_tuple_of:CallR X (.type "tuple") (fun xs H Q=>∃ p ys,xs=[.ref p]∧((SqL X.K H p ys∧∀ l,H l=none→Q (.ref l) (upd H l (.tup ys)))∨(SqT X.K H p ys∧Q (.ref p) H))):=by
 intro pins s σ H xs us Q I r h
 obtain ⟨p,ys,rfl,h⟩:=h
 obtain ⟨u,rfl,rx⟩:=vals1 r
 cases rx
 rcases h with ⟨hq,q⟩ | ⟨hq,q⟩
 ·obtain ⟨its,r',pl,hz⟩:=I.list hq
  have hlen:=r'.length
  refine call_tuple_list pl.isList (fun h' kp=>?_) (by simp only [List.size_toArray] <;> omega)
  have I1:Inv X pins σ H { s with heap:=h' }:=I.kept (t':=s.toks) kp
  have I2:Inv X pins σ (upd H h'.objs.size (.tup ys)) { s with heap:=h'.push { cls:=.type "tuple",data:=.seq its.toArray } }:=
   I1.laid (t':=s.toks) (fun b o e=>Heap.get?_push_of_some _ e) (Nat.le_refl _) (show ObjOk X.prog X.w _ _ _ (.tup ys) from ⟨hz,its,r',IsTup.new _ _⟩)
  exact ⟨.ref h'.objs.size,_,I2,rfl,q _ (I1.hok.fresh (Nat.le_refl _))⟩
 ·obtain ⟨its,r',pl,hz⟩:=I.tuple hq
  exact call_tuple_same pl ⟨.ref p,H,I,rfl,q⟩
def tyV (K:PySem.W.Frag) (T:String) (x:V) (H:Hp):Prop:=match x with
 | .str _=>T = "str"
 | .int _=>T = "int"
 | .ref p=>(T = "list"∧∃ xs,SqL K H p xs)∨(T = "tuple"∧∃ o,K.lookup p=some o∧o.cls=.type "tuple"∧o.dict=none) ∨
   (T = "dict"∧((∃ kvs,H p=some (.dK kvs))∨∃ kvs,H p=some (.dT kvs)))∨(T = "set"∧∃ S n,H p=some (.set S n))
 | _=>False
theorem tyV_is {pins:List (Addr × Obj)} {σ:St} {H:Hp} {s:Shared} {T:String} {x:V} {v:Value} (I:Inv X pins σ H s) (r:RelV x v) (ty:tyV X.K T x H) :
  s.TypeIs v T∧∀ a,v=.ref a→∃ ob,s.heap.get? a=some ob∧ob.dict=none:=by
 cases x with
 | str z=>
  obtain ⟨t,rfl⟩:=r
  cases (show T = "str" from ty)
  exact ⟨typeIs_str s z t,fun _ e=>nomatch e⟩
 | int i=>
  obtain ⟨t,rfl⟩:=r
  cases (show T = "int" from ty)
  exact ⟨typeIs_int s i t,fun _ e=>nomatch e⟩
 | ref p=>
  cases r
  rcases ty with ⟨rfl,xs,hq⟩ | ⟨rfl,o,hk,hc,hd⟩ | ⟨rfl,hk⟩ | ⟨rfl,S,n,hk⟩
  ·obtain ⟨its,_,pl,_⟩:=I.list hq
   refine ⟨pl.isList.typeIs,fun a e=>?_⟩
   cases e
   obtain ⟨o,n,e,c,hd,_⟩:=pl
   exact ⟨o,e,hd⟩
  ·refine ⟨⟨o,I.kIn p o hk,hc⟩,fun a e=>?_⟩
   cases e
   exact ⟨o,I.kIn _ o hk,hd⟩
  ·have z:∃ o,s.heap.get? p=some o∧o.ExactDict:=by
    rcases hk with ⟨kvs,hk⟩ | ⟨kvs,hk⟩
    ·obtain ⟨_,_,_,_,o,_,_,e,ex,_⟩:=I.hok p _ hk
     exact ⟨o,e,ex⟩
    ·obtain ⟨_,_,_,_,o,_,_,e,ex,_⟩:=I.hok p _ hk
     exact ⟨o,e,ex⟩
   obtain ⟨o,e,ex⟩:=z
   refine ⟨⟨o,e,ex.1⟩,fun a e2=>?_⟩
   cases e2
   exact ⟨o,e,ex.2.1⟩
  ·obtain ⟨o,_,_,_,e,ex,_⟩:=I.hok p _ hk
   refine ⟨⟨o,e,ex.1⟩,fun a e2=>?_⟩
   cases e2
   exact ⟨o,e,ex.2.1⟩
 | _=>exact False.elim ty
def tBM0 (K:PySem.W.Frag) (T:String) (r:V→List V→Hp→VK→Prop) (to:TE):TE:=fun σ H Q=>to σ H fun x H1=>tyV K T x H1∧r x [] H1 Q
def tBM (K:PySem.W.Frag) (T:String) (r:V→List V→Hp→VK→Prop) (to:TE) (t:TA):TE:=fun σ H Q=>to σ H fun x H1=>tyV K T x H1∧t σ H1 fun xs H2=>r x xs H2 Q
variable {o e:Expr} {es:List Expr} {to:TE} {t:TA} {name:Str} {apos cpos:Pos} {T id:String} {r:V→List V→Hp→VK→Prop}
theorem pe_bm0 (pa:PlainAttrs T) (slot:Slot T name id) (hty:typeOf (.builtin id)=pure (.type "method_descriptor")) (hm:MtR X id r) (ho:PE X o to)
  (hbase:attributeBase o name X.env (eval o X.env)=eval o X.env:=by rfl) (hline:(apos.endLine == cpos.line)=true:=by rfl):PE X (.Call (.Attribute o name apos) [] [] cpos) (tBM0 X.K T r to):=by
 intro pins s σ H Q I h
 refine wpAny_Call_method0_late hbase hline (thn (ho pins s σ H _ I h) fun v s1 ⟨x,H1,I1,r1,ty,q1⟩=>?_)
 obtain ⟨h1,h2⟩:=tyV_is I1 r1 ty
 exact ⟨T,id,pa,slot,hty,h1,h2,Calls.callWith_builtin rfl (PySem.evalArgs_none (hm pins s1 σ H1 x [] v [] Q I1 r1 .nil q1))⟩
theorem pe_bm (pa:PlainAttrs T) (slot:Slot T name id) (hty:typeOf (.builtin id)=pure (.type "method_descriptor")) (hm:MtR X id r) (ho:PE X o to) (ha:PA X (e :: es) t)
  (hbase:attributeBase o name X.env (eval o X.env)=eval o X.env:=by rfl)
  (hfew:((backTo cpos (starEach (e :: es) X.env)).all (fun x=>!x.1) && (backToKw cpos (keywordEach [] X.env)).all (fun x=>x.1.isSome)
   && decide ((e :: es).length + ([]:List Keyword).length + (if ([]:List Keyword).isEmpty then 0 else 1) < 30))=true:=by rfl)
  (hline:(apos.endLine == cpos.line)=true:=by rfl) (hs:starEach (e :: es) X.env=(false,eval e X.env) :: starEach es X.env:=by rfl) (hplain:(backTo cpos (starEach es X.env)).any (·.1)=false:=by rfl) :
  PE X (.Call (.Attribute o name apos) (e :: es) [] cpos) (tBM X.K T r to t):=by
 intro pins s σ H Q I h
 refine wpAny_Call_method_late hbase hfew hline rfl (thn (ho pins s σ H _ I h) fun v s1 ⟨x,H1,I1,r1,ty,q1⟩=>?_)
 obtain ⟨h1,h2⟩:=tyV_is I1 r1 ty
 refine ⟨T,id,pa,slot,hty,h1,h2,?_⟩
 have hA:=ha cpos pins s1 σ H1 _ I1 q1
 rw [hs] at hA ⊢
 refine Calls.callWith_builtin (by show (false || (backTo cpos (starEach es X.env)).any (·.1))=false;rw [hplain] <;> rfl) (Calls.evalArgs_plain ?_)
 exact thn hA fun us s2 ⟨vs,H2,I2,r2,q2⟩=>hm pins s2 σ H2 x vs v us Q I2 r1 r2 q2
end
end L2
namespace L2
open PySem PySem.Spec PyProof.Rows
def MtM (X:Cx) (id:String) (r:V→List V→Hp→VK→Prop):Prop:=
 ∀ (pins:List (Addr × Obj)) (s:Shared) (σ:St) (H:Hp) (x:V) (xs:List V) (v:Value) (us:List Value) (Q:VK),Inv X pins σ H s→RelV x v→Vals xs us→r x xs H Q →
  wpAny (model X.prog X.w) X.A (call (.builtin id) (v :: us)) (EP X pins σ Q) X.xe s
theorem Vals.one:∀ {x:V} {us:List Value},Vals [x] us→∃ u,us=[u]∧RelV x u
 | _,_,.cons r .nil=>⟨_,rfl,r⟩
theorem Vals.two:∀ {x y:V} {us:List Value},Vals [x,y] us→∃ u v,us=[u,v]∧RelV x u∧RelV y v
 | _,_,_,.cons r (.cons q .nil)=>⟨_,_,rfl,r,q⟩
theorem Vals.zero:∀ {us:List Value},Vals [] us→us=[]
 | _,.nil=>rfl
theorem Vals.dropLast {xs:List V} {us:List Value} (h:Vals xs us):Vals xs.dropLast us.dropLast:=by
 induction h with
 | nil=>exact .nil
 | cons r t ih=>
  cases t with
  | nil=>exact .nil
  | cons q t'=>exact .cons r ih
theorem Vals.eraseIdx:∀ {xs:List V} {us:List Value} (i:Nat),Vals xs us→Vals (xs.eraseIdx i) (us.eraseIdx i)
 | _,_,_,.nil=>.nil
 | _,_,0,.cons _ t=>t
 | _,_,i + 1,.cons r t=>.cons r (Vals.eraseIdx i t)
theorem Vals.reverse {xs:List V} {us:List Value} (h:Vals xs us):Vals xs.reverse us.reverse:=by
 induction h with
 | nil=>exact .nil
 | cons r t ih=>rw [List.reverse_cons,List.reverse_cons];exact Vals.append ih (.cons r .nil)
theorem Vals.rep {xs:List V} {us:List Value} (h:Vals xs us):∀ k:Nat,Vals (List.replicate k xs).flatten (List.replicate k us).flatten
 | 0=>.nil
 | k + 1=>by
  rw [List.replicate_succ,List.replicate_succ,List.flatten_cons,List.flatten_cons]
  exact Vals.append h (Vals.rep h k)
theorem erase_last {α:Type} (l:List α):l.eraseIdx (l.length - 1)=l.dropLast:=by
 induction l with
 | nil=>rfl
 | cons a r ih=>
  cases r with
  | nil=>rfl
  | cons b r=>
   have e:(a :: b :: r).length - 1=((b :: r).length - 1) + 1:=by
    have h1:(a :: b :: r).length=r.length + 2:=rfl
    have h2:(b :: r).length=r.length + 1:=rfl
    omega
   rw [e,List.eraseIdx_cons_succ,ih]
   all_goals rfl
theorem foldl_rep (its:List Value):∀ (k:Nat) (acc:List Value),
  List.foldl (fun x1 x2=>x1 ++ x2) acc.toArray (List.replicate k its.toArray)=(acc ++ (List.replicate k its).flatten).toArray
 | 0,acc=>by simp
 | k + 1,acc=>by
  have e:acc.toArray ++ its.toArray=(acc ++ its).toArray:=by simp
  have e2:(acc ++ its) ++ (List.replicate k its).flatten=acc ++ (List.replicate (k + 1) its).flatten:=by
   rw [List.replicate_succ,List.flatten_cons,List.append_assoc]
  rw [← e2,← foldl_rep its k (acc ++ its),← e,List.replicate_succ,List.foldl_cons]
section
variable {X:Cx} {pins:List (Addr × Obj)} {σ:St} {H:Hp} {s:Shared} {l b:Addr} {xs ys zs:List V}
theorem Inv.lset {its its':List Value} {n:Nat} {f:Array Value→Array Value} {t':Nat} (I:Inv X pins σ H s) (hH:H l=some (.lst xs))
  (e:s.heap.get? l=some { cls:=.type "list",data:=.seq its.toArray n }) (hf:f its.toArray=its'.toArray) (hv:Vals ys its') (hz:ys.length≤sizeLine) :
  Inv X pins σ (upd H l (.lst ys)) { s with heap:=s.heap.update l (Obj.mapSeq f),toks:=t' }:=by
 have q:=PySem.IsL.update e f
 rw [hf] at q
 refine I.write (x:=l) (e:=l) (by rw [hH];exact trivial) (.inl rfl) (fun b' u hb hu=>(Heap.get?_update_other s.heap (Obj.mapSeq f) (Ne.symm hb)).trans hu) ⟨_,q⟩ ?_
 exact ⟨hz,its',_,hv,q⟩
theorem Inv.lnew {its:List Value} {t':Nat} (I:Inv X pins σ H s) (hv:Vals ys its) (hz:ys.length≤sizeLine) :
  Inv X pins σ (upd H s.heap.objs.size (.lst ys)) { s with heap:=s.heap.push { cls:=.type "list",data:=.seq its.toArray },toks:=t' }:=
 I.laid (fun _ _ q=>Heap.get?_push_of_some _ q) (Nat.le_refl _) ⟨hz,its,0,hv,Heap.get?_push_size _ rfl⟩
theorem Inv.fresh (I:Inv X pins σ H s):H s.heap.objs.size=none:=I.hok.fresh (Nat.le_refl _)
theorem Inv.lstM (I:Inv X pins σ H s) (hH:H l=some (.lst xs)):xs.length≤sizeLine∧∃ (its:List Value) (n:Nat),Vals xs its∧xs.length=its.length∧s.heap.get? l=some { cls:=.type "list",data:=.seq its.toArray n }:=by
 obtain ⟨z,its,n,r,e⟩:=I.hok l _ hH
 exact ⟨z,its,n,r,r.length,e⟩
theorem notLongL {n:Nat} (h:n≤sizeLine):Builtin.List.listTooLong n=false:=by
 unfold Builtin.List.listTooLong
 exact decide_eq_false (by omega)
end
section
variable {X:Cx}
def rAppend:V→List V→Hp→VK→Prop:=fun x vs H Q=>∃ l xs y,x=.ref l∧vs=[y]∧H l=some (.lst xs)∧xs.length < sizeLine∧Q .non (upd H l (.lst (xs ++ [y])))
theorem mt_append:MtM X "list.append" rAppend:=by
 intro pins s σ H x vs v us Q I rx rv h
 obtain ⟨l,xs,y,rfl,rfl,hH,hz,q⟩:=h
 cases rx
 obtain ⟨u,rfl,ru⟩:=rv.one
 obtain ⟨z,its,n,r,hl,e⟩:=I.lstM hH
 refine call_meets F.slot_list_append ⟨_,e,rfl⟩ F.entry_list_append (F.args_list_append_2 _ _) (PySem.list_append l its.toArray n u (by rw [List.size_toArray];omega)) ⟨e,?_⟩
 refine ⟨.non,_,I.lset (its':=its ++ [u]) hH e (by simp) (r.append (.cons ru .nil)) ?_,rfl,q⟩
 rw [List.length_append,List.length_singleton]
 omega
def rExtend:V→List V→Hp→VK→Prop:=fun x vs H Q=>∃ l b xs zs,x=.ref l∧vs=[.ref b]∧H l=some (.lst xs)∧H b=some (.lst zs)∧xs.length + zs.length≤sizeLine∧Q .non (upd H l (.lst (xs ++ zs)))
def rPop:V→List V→Hp→VK→Prop:=fun x vs H Q=>∃ l xs y,x=.ref l∧vs=[]∧H l=some (.lst xs)∧xs[xs.length - 1]?=some y∧Q y (upd H l (.lst xs.dropLast))
theorem mt_pop:MtM X "list.pop" rPop:=by
 intro pins s σ H x vs v us Q I rx rv h
 obtain ⟨l,xs,y,rfl,rfl,hH,hy,q⟩:=h
 cases rx
 have hus:=rv.zero
 subst hus
 obtain ⟨z,its,n,r,hl,e⟩:=I.lstM hH
 obtain ⟨u,hu,ru⟩:=r.get hy
 have hy':its.toArray[its.toArray.size - 1]?=some u:=by
  show its.toArray[its.length - 1]?=some u
  rw [← Array.getElem?_toList,← hl]
  exact hu
 refine call_meets F.slot_list_pop ⟨_,e,rfl⟩ F.entry_list_pop (F.args_list_pop_1 _) (MeetsSeq.list_pop_last l its.toArray n u hy' (by rw [List.size_toArray];omega)) ⟨e,?_⟩
 refine ⟨y,_,I.lset (its':=its.dropLast) hH e ?_ r.dropLast ?_,ru,q⟩
 ·show its.toArray.eraseIdxIfInBounds (its.toArray.size - 1)=its.dropLast.toArray
  rw [List.size_toArray,List.eraseIdxIfInBounds_toArray,erase_last]
 ·rw [List.length_dropLast]
  omega
def rReverse:V→List V→Hp→VK→Prop:=fun x vs H Q=>∃ l xs,x=.ref l∧vs=[]∧H l=some (.lst xs)∧Q .non (upd H l (.lst xs.reverse))
def rClear:V→List V→Hp→VK→Prop:=fun x vs H Q=>∃ l xs,x=.ref l∧vs=[]∧H l=some (.lst xs)∧Q .non (upd H l (.lst []))
def rCat:R2:=fun x y H Q=>∃ l b xs zs,x=.ref l∧y=.ref b∧H l=some (.lst xs)∧H b=some (.lst zs)∧xs.length + zs.length≤sizeLine∧∀ p,H p=none→Q (.ref p) (upd H p (.lst (xs ++ zs)))
theorem op_cat:OpR X (binaryOp .Add) rCat:=by
 intro pins s σ H x y v u Q I rx ry h
 obtain ⟨l,b,xs,zs,rfl,rfl,hH,hB,hz,q⟩:=h
 cases rx
 cases ry
 obtain ⟨z,its,n,r,hl,e⟩:=I.lstM hH
 obtain ⟨z2,its2,n2,r2,hl2,e2⟩:=I.lstM hB
 refine PySem.P.add_list e e2 ?_ (by rw [List.size_toArray,List.size_toArray];omega)
 have ea:its.toArray ++ its2.toArray=(its ++ its2).toArray:=by simp
 rw [ea]
 exact ⟨.ref _,_,I.lnew (t':=s.toks) (r.append r2) (by rw [List.length_append];omega),rfl,q _ I.fresh⟩
def rRep:R2:=fun x y H Q=>∃ l k xs,x=.ref l∧y=.int k∧H l=some (.lst xs)∧-(2 ^ 63)≤k∧k < 2 ^ 63∧xs.length * k.toNat≤sizeLine ∧
 ∀ p,H p=none→Q (.ref p) (upd H p (.lst (List.replicate k.toNat xs).flatten))
theorem len_rep {α:Type} (xs:List α) (k:Nat):(List.replicate k xs).flatten.length=k * xs.length:=by
 induction k with
 | zero=>simp
 | succ k ih=>rw [List.replicate_succ,List.flatten_cons,List.length_append,ih,Nat.succ_mul,Nat.add_comm]
theorem op_rep:OpR X (binaryOp .Mult) rRep:=by
 intro pins s σ H x y v u Q I rx ry h
 obtain ⟨l,k,xs,rfl,rfl,hH,h1,h2,hz,q⟩:=h
 cases rx
 obtain ⟨t,rfl⟩:=ry
 obtain ⟨z,its,n,r,hl,e⟩:=I.lstM hH
 have hlen:its.toArray.size * k.toNat≤sizeLine:=by rw [List.size_toArray,← hl];exact hz
 have hcap:¬ its.toArray.size * k.toNat > (2 ^ 63 - 1) / 8:=by
  have:(sizeLine:Nat)≤(2 ^ 63 - 1) / 8:=by decide
  omega
 have hfit:¬ (!Builtin.List.listFitsIndex k)=true:=by
  rw [fitsIndex_both h1 h2]
  exact Bool.false_ne_true
 have hlong:¬ Builtin.List.listTooLong (its.toArray.size * k.toNat)=true:=by
  rw [notLongL hlen]
  exact Bool.false_ne_true
 have hnew:List.foldl (fun x1 x2=>x1 ++ x2) #[] (List.replicate (if its.toArray.isEmpty=true then 0 else k.toNat) its.toArray)=(List.replicate k.toNat its).flatten.toArray:=by
  have f0:∀ m:Nat,List.foldl (fun x1 x2=>x1 ++ x2) #[] (List.replicate m its.toArray)=(List.replicate m its).flatten.toArray:=fun m=>by
   have:=foldl_rep its m []
   rw [List.nil_append] at this
   exact this
  rw [f0]
  cases its with
  | nil=>simp
  | cons a r'=>rw [if_neg (by simp)]
 refine wpAny_binaryOp_repeat_ref (T:="list") (U:="int") (by decide) ⟨_,e,rfl⟩ (fun s'=>typeIs_int s' k t) noFill_list_mul F.fills_int_mul F.slot_int_rmul repeat_list F.slot_int_index.lookup
  (call_meets F.slot_int_rmul (typeIs_int s k t) F.entry_int_rmul (F.args_int_rmul_2 _ _) (int___rmul___int_list k t l its.toArray n)
   ⟨e,rfl,⟨_,e,rfl⟩,call_meets F.slot_list_mul ⟨_,e,rfl⟩ F.entry_list_mul (F.args_list_mul_2 _ _) (AutoListH.list___mul___list_int_3 l its.toArray n k t hfit hcap hlong) ⟨e,?_⟩⟩)
 rw [hnew]
 exact ⟨.ref _,_,I.lnew (t':=s.toks) (r.rep k.toNat) (by rw [len_rep,Nat.mul_comm];exact hz),rfl,q _ I.fresh⟩
end
section
variable {prog:Program} {w:World} {A:Around} {E:Value→Shared→Prop} {s:Shared}
end
section
variable {X:Cx}
end
end L2
namespace L2
open PySem PySem.Spec PyProof.Rows
section
variable {κ:Type} [DecidableEq κ]
def valV (kvs:List (κ × V)) (k:κ):Option V:=(kvs.find? fun kv=>decide (kv.1=k)).map (·.2)
def putK (kvs:List (κ × V)) (k:κ) (v:V):List (κ × V):=
 if (kvs.any fun kv=>decide (kv.1=k))=true then kvs.map (fun kv=>if kv.1=k then (kv.1,v) else kv) else kvs ++ [(k,v)]
def dropK (kvs:List (κ × V)) (k:κ):List (κ × V):=kvs.filter fun kv=>decide (kv.1≠k)
theorem valV_pos {p:κ × V} {r:List (κ × V)} {k:κ} (e:p.1=k):valV (p :: r) k=some p.2:=by simp [valV,List.find?_cons,e]
theorem valV_neg {p:κ × V} {r:List (κ × V)} {k:κ} (e:¬ p.1=k):valV (p :: r) k=valV r k:=by simp [valV,List.find?_cons,e]
theorem valV_any (k:κ):∀ kvs:List (κ × V),(kvs.any fun kv=>decide (kv.1=k))=(valV kvs k).isSome
 | []=>rfl
 | p :: r=>by
  rw [List.any_cons]
  by_cases e:p.1=k
  ·simp only [valV_pos e,decide_eq_true e,Bool.true_or,Option.isSome_some]
  ·rw [valV_neg e,decide_eq_false e,Bool.false_or];exact valV_any k r
theorem valV_map (k j:κ) (y:V):∀ kvs:List (κ × V),valV (kvs.map fun kv=>if kv.1=k then (kv.1,y) else kv) j=(valV kvs j).map fun x=>if j=k then y else x
 | []=>rfl
 | p :: r=>by
  have ih:=valV_map k j y r
  rw [List.map_cons]
  by_cases h:p.1=k
  ·rw [if_pos h]
   by_cases e:p.1=j
   ·rw [valV_pos (p:=(p.1,y)) e,valV_pos e,Option.map_some,if_pos (e.symm.trans h)]
   ·rw [valV_neg (p:=(p.1,y)) e,valV_neg e,ih]
  ·rw [if_neg h]
   by_cases e:p.1=j
   ·rw [valV_pos (p:=p) e,valV_pos e,Option.map_some,if_neg (fun z=>h (e.trans z))]
   ·rw [valV_neg (p:=p) e,valV_neg e,ih]
theorem valV_snoc (k j:κ) (y:V):∀ kvs:List (κ × V),valV kvs k=none→valV (kvs ++ [(k,y)]) j=if j=k then some y else valV kvs j
 | [],_=>by
  by_cases e:k=j
  ·rw [if_pos e.symm];exact valV_pos (p:=(k,y)) e
  ·rw [if_neg (fun z=>e z.symm)];exact valV_neg (p:=(k,y)) e
 | p :: r,hn=>by
  rw [List.cons_append]
  have hk:¬ p.1=k:=fun z=>by rw [valV_pos z] at hn;cases hn
  rw [valV_neg hk] at hn
  have ih:=valV_snoc k j y r hn
  by_cases e:p.1=j
  ·rw [valV_pos e,valV_pos e,if_neg (fun z=>hk (e.trans z))]
  ·rw [valV_neg e,valV_neg e,ih]
theorem valV_put (kvs:List (κ × V)) (k j:κ) (y:V):valV (putK kvs k y) j=if j=k then some y else valV kvs j:=by
 unfold putK
 by_cases a:(kvs.any fun kv=>decide (kv.1=k))=true
 ·rw [if_pos a,valV_map]
  rw [valV_any] at a
  by_cases e:j=k
  ·obtain ⟨x,hx⟩:=Option.isSome_iff_exists.mp a
   rw [if_pos e,e,hx,Option.map_some,if_pos rfl]
  ·rw [if_neg e]
   cases valV kvs j with
   | none=>rfl
   | some x=>rw [Option.map_some,if_neg e]
 ·rw [if_neg a]
  refine valV_snoc k j y kvs ?_
  rw [valV_any] at a
  cases q:valV kvs k with
  | none=>rfl
  | some x=>rw [q] at a;exact (a rfl).elim
theorem length_putK (kvs:List (κ × V)) (k:κ) (v:V):(putK kvs k v).length≤kvs.length + 1:=by
 unfold putK
 split
 ·rw [List.length_map];omega
 ·rw [List.length_append,List.length_cons,List.length_nil];omega
theorem putK_new {kvs:List (κ × V)} {k:κ} (v:V) (h:valV kvs k=none):putK kvs k v=kvs ++ [(k,v)]:=by
 unfold putK
 rw [valV_any,h]
 exact if_neg (by decide)
theorem RelO.isSome_eq {o:Option V} {u:Option Value} (r:RelO o u):o.isSome=u.isSome:=by
 cases o with
 | none=>cases u with
  | none=>rfl
  | some _=>exact (show False from r).elim
 | some _=>cases u with
  | none=>exact (show False from r).elim
  | some _=>rfl
theorem RelO.getD {o:Option V} {u:Option Value} {d:V} {d':Value} (r:RelO o u) (rd:RelV d d'):RelV (o.getD d) (u.getD d'):=by
 cases o with
 | none=>cases u with
  | none=>exact rd
  | some _=>exact (show False from r).elim
 | some _=>cases u with
  | none=>exact (show False from r).elim
  | some _=>exact r
theorem KV.val {kvs:List (κ × V)} {vs:List (κ × Value)} (r:KV kvs vs) (k:κ):RelO (valV kvs k) (valueAt vs k):=by
 unfold KV at r
 induction r with
 | nil=>exact True.intro
 | @cons p q ps qs h t ih=>
  obtain ⟨h1,h2⟩:=h
  by_cases e:p.1=k
  ·have e':q.1=k:=h1.symm.trans e
   have b:valueAt (q :: qs) k=some q.2:=by simp [valueAt,List.find?_cons,e']
   rw [valV_pos e,b];exact h2
  ·have e':¬ q.1=k:=fun z=>e (h1.trans z)
   have b:valueAt (q :: qs) k=valueAt qs k:=by simp [valueAt,List.find?_cons,e']
   rw [valV_neg e,b];exact ih
theorem KV.any {kvs:List (κ × V)} {vs:List (κ × Value)} (r:KV kvs vs) (k:κ):(kvs.any fun kv=>decide (kv.1=k))=vs.any fun kv=>decide (kv.1=k):=by
 unfold KV at r
 induction r with
 | nil=>rfl
 | cons h t ih=>rw [List.any_cons,List.any_cons,ih,h.1]
theorem KV.repl {kvs:List (κ × V)} {vs:List (κ × Value)} (r:KV kvs vs) (k:κ) {y:V} {u:Value} (ry:RelV y u) :
  KV (kvs.map fun kv=>if kv.1=k then (kv.1,y) else kv) (vs.map fun kv=>if kv.1=k then (kv.1,u) else kv):=by
 unfold KV at r ⊢
 induction r with
 | nil=>exact .nil
 | @cons p q ps qs h t ih=>
  rw [List.map_cons,List.map_cons]
  refine .cons ?_ ih
  obtain ⟨h1,h2⟩:=h
  by_cases e:p.1=k
  ·rw [if_pos e,if_pos (h1.symm.trans e)];exact ⟨h1,ry⟩
  ·rw [if_neg e,if_neg (fun z=>e (h1.trans z))];exact ⟨h1,h2⟩
theorem KV.put {kvs:List (κ × V)} {vs:List (κ × Value)} (r:KV kvs vs) (k:κ) {y:V} {u:Value} (ry:RelV y u):KV (putK kvs k y) (stored vs k u):=by
 unfold putK stored
 rw [r.any k]
 by_cases e:(vs.any fun kv=>decide (kv.1=k))=true
 ·rw [if_pos e,if_pos e];exact r.repl k ry
 ·rw [if_neg e,if_neg e];exact Paired.snoc r ⟨rfl,ry⟩
theorem KV.drop {kvs:List (κ × V)} {vs:List (κ × Value)} (r:KV kvs vs) (k:κ):KV (dropK kvs k) (without vs k):=by
 unfold KV at r ⊢
 unfold dropK without
 induction r with
 | nil=>exact .nil
 | @cons p q ps qs h t ih=>
  obtain ⟨h1,h2⟩:=h
  rw [List.filter_cons,List.filter_cons]
  by_cases e:p.1=k
  ·have a:¬ decide (p.1≠k)=true:=by simp [e]
   have b:¬ decide (q.1≠k)=true:=by simp [h1.symm.trans e]
   rw [if_neg a,if_neg b];exact ih
  ·have e':¬ q.1=k:=fun z=>e (h1.trans z)
   have a:decide (p.1≠k)=true:=by simp [e]
   have b:decide (q.1≠k)=true:=by simp [e']
   rw [if_pos a,if_pos b];exact .cons ⟨h1,h2⟩ ih
theorem KV.keys {kvs:List (κ × V)} {vs:List (κ × Value)} (r:KV kvs vs):kvs.map (·.1)=vs.map (·.1):=by
 unfold KV at r
 induction r with
 | nil=>rfl
 | cons h t ih=>rw [List.map_cons,List.map_cons,ih,h.1]
theorem KV.length {kvs:List (κ × V)} {vs:List (κ × Value)} (r:KV kvs vs):kvs.length=vs.length:=Paired.length r
end
theorem kV_is {P:Program} {w:World} {k:Key} {u:Value} (r:RelV (kV k) u):(mixKind P w).is k u=true:=by
 cases k with
 | inl i=>obtain ⟨t,e⟩:=(show ∃ t,u=Value.int i t from r);subst e;exact mixKind_int P w i t
 | inr x=>obtain ⟨t,e⟩:=(show ∃ t,u=Value.str x t from r);subst e;exact mixKind_str P w x t
theorem items_are {P:Program} {w:World}:∀ {ks:List Key} {us:List Value},Vals (ks.map kV) us→ItemsAre (mixKind P w) ks us
 | [],_,r=>by rw [List.map_nil] at r;cases r;exact .nil
 | k :: ks,_,r=>by
  rw [List.map_cons] at r
  cases r with
  | cons h t=>exact .cons (kV_is h) (items_are t)
abbrev KT (H:Hp):List (List Key × V)→List (List Key × Addr × Value)→Prop:=Paired fun p q=>p.1=q.1∧H q.2.1=some (.tup (p.1.map kV))∧RelV p.2 q.2.2
theorem KT.val {H:Hp} {kvs:List (List Key × V)} {xs:List (List Key × Addr × Value)} (r:KT H kvs xs) (k:List Key):RelO (valV kvs k) ((atKey xs k).map (·.2)):=by
 induction r with
 | nil=>exact True.intro
 | @cons p q ps qs h t ih=>
  obtain ⟨h1,_,h2⟩:=h
  by_cases e:p.1=k
  ·have e':q.1=k:=h1.symm.trans e
   have b:atKey (q :: qs) k=some q.2:=by simp [atKey,List.find?_cons,e']
   rw [valV_pos e,b];exact h2
  ·have e':¬ q.1=k:=fun z=>e (h1.trans z)
   have b:atKey (q :: qs) k=atKey qs k:=by simp [atKey,List.find?_cons,e']
   rw [valV_neg e,b];exact ih
theorem KT.repl {H:Hp} {kvs:List (List Key × V)} {xs:List (List Key × Addr × Value)} (r:KT H kvs xs) (k:List Key) {y:V} {u:Value} (ry:RelV y u) :
  KT H (kvs.map fun kv=>if kv.1=k then (kv.1,y) else kv) (xs.map (putAt k u)):=by
 induction r with
 | nil=>exact .nil
 | @cons p q ps qs h t ih=>
  rw [List.map_cons,List.map_cons]
  refine .cons ?_ ih
  obtain ⟨h1,h2,h3⟩:=h
  unfold putAt
  by_cases e:p.1=k
  ·rw [if_pos e,if_pos (h1.symm.trans e)];exact ⟨h1,h2,ry⟩
  ·rw [if_neg e,if_neg (fun z=>e (h1.trans z))];exact ⟨h1,h2,h3⟩
theorem KT.put {H:Hp} {kvs:List (List Key × V)} {xs:List (List Key × Addr × Value)} (r:KT H kvs xs) (k:List Key) {b:Addr} {y:V} {u:Value} (hb:H b=some (.tup (k.map kV))) (ry:RelV y u) :
  KT H (putK kvs k y) (storedH xs k b u):=by
 have e:(kvs.any fun kv=>decide (kv.1=k))=(atKey xs k).isSome:=by
  rw [valV_any,(r.val k).isSome_eq,Option.isSome_map]
 unfold putK storedH
 rw [e]
 by_cases q:(atKey xs k).isSome=true
 ·rw [if_pos q,if_pos q];exact r.repl k ry
 ·rw [if_neg q,if_neg q];exact Paired.snoc r ⟨rfl,hb,ry⟩
theorem KT.keeps {H H':Hp} {kvs:List (List Key × V)} {xs:List (List Key × Addr × Value)} (r:KT H kvs xs) (ht:∀ b ys,H b=some (.tup ys)→H' b=some (.tup ys)):KT H' kvs xs:=
 Paired.mapP r fun _ _ z=>⟨z.1,ht _ _ z.2.1,z.2.2⟩
section
variable {P:Program} {w:World} {H:Hp} {h:Heap} {a:Addr}
theorem rd_of {u:HO} (ok:HOk P w H h) (e:Rd H a u):ObjOk P w H h a u:=e.ok ok
theorem dk_rd {kvs:List (Key × V)} (ok:HOk P w H h) (e:Rd H a (.dK kvs)):kvs.length≤sizeLine∧(a == sysModules)=false∧∃ vs,KV kvs vs∧h.DictOf (mixKind P w) a vs:=
 show ObjOk P w H h a (.dK kvs) from rd_of ok e
theorem dk_of {kvs:List (Key × V)} (ok:HOk P w H h) (e:H a=some (.dK kvs)):kvs.length≤sizeLine∧(a == sysModules)=false∧∃ vs,KV kvs vs∧h.DictOf (mixKind P w) a vs:=dk_rd ok (.inl e)
theorem key_of {ks:List Key} (ok:HOk P w H h) (e:H a=some (.tup (ks.map kV))):(tupleKind (mixKind P w)).is h ks a:=by
 obtain ⟨_,its,r,o,h1,h2,n,h3⟩:=(show ObjOk P w H h a (.tup (ks.map kV)) from ok a _ e)
 exact ⟨o,its.toArray,n,h1,h2,h3,by simpa using items_are r⟩
theorem dt_rd {kvs:List (List Key × V)} (ok:HOk P w H h) (e:Rd H a (.dT kvs)):kvs.length≤sizeLine∧(a == sysModules)=false ∧
  ∃ xs,KT H kvs xs∧h.DictOfH (tupleKind (mixKind P w)) a xs:=by
 obtain ⟨z,y,xs,r,o,es,ep,h1,h2,h3,h4,h5⟩:=(show ObjOk P w H h a (.dT kvs) from rd_of ok e)
 refine ⟨z,y,xs,r,o,es,ep,h1,h2,h3,h4,fun x hx=>?_,h5⟩
 have all:∀ {l:List (List Key × V)} {m:List (List Key × Addr × Value)},KT H l m→∀ x∈m,(tupleKind (mixKind P w)).is h x.1 x.2.1:=by
  intro l m q
  induction q with
  | nil=>intro x hx;exact nomatch hx
  | @cons p q ps qs hq t ih=>
   intro x hx
   rcases List.mem_cons.mp hx with e | hx
   ·subst e
    exact key_of ok (by rw [← hq.1];exact hq.2.1)
   ·exact ih x hx
 exact all r x hx
theorem dt_of {kvs:List (List Key × V)} (ok:HOk P w H h) (e:H a=some (.dT kvs)):kvs.length≤sizeLine∧(a == sysModules)=false ∧
  ∃ xs,KT H kvs xs∧h.DictOfH (tupleKind (mixKind P w)) a xs:=dt_rd ok (.inl e)
end
def DGet (H:Hp) (a:Addr) (y:V) (r:Option V):Prop:=
 (∃ kvs k,Rd H a (.dK kvs)∧y=kV k∧r=valV kvs k)∨∃ kvs k b,Rd H a (.dT kvs)∧y=.ref b∧H b=some (.tup (k.map kV))∧r=valV kvs k
def DPut (H:Hp) (a:Addr) (y v:V) (H':Hp):Prop:=
 (∃ kvs k,H a=some (.dK kvs)∧y=kV k∧kvs.length < sizeLine∧H'=upd H a (.dK (putK kvs k v))) ∨
 ∃ kvs k b,H a=some (.dT kvs)∧y=.ref b∧H b=some (.tup (k.map kV))∧kvs.length < sizeLine∧H'=upd H a (.dT (putK kvs k v))
theorem DGet.k {H:Hp} {a:Addr} {kvs:List (Key × V)} {k:Key} (e:H a=some (.dK kvs)):DGet H a (kV k) (valV kvs k):=.inl ⟨kvs,k,.inl e,rfl,rfl⟩
theorem DGet.t {H:Hp} {a b:Addr} {kvs:List (List Key × V)} {k:List Key} (e:H a=some (.dT kvs)) (eb:H b=some (.tup (k.map kV))):DGet H a (.ref b) (valV kvs k):=.inr ⟨kvs,k,b,.inl e,rfl,eb,rfl⟩
theorem DPut.k {H:Hp} {a:Addr} {kvs:List (Key × V)} {k:Key} {v:V} (e:H a=some (.dK kvs)) (hl:kvs.length < sizeLine):DPut H a (kV k) v (upd H a (.dK (putK kvs k v))):=.inl ⟨kvs,k,e,rfl,hl,rfl⟩
theorem DPut.t {H:Hp} {a b:Addr} {kvs:List (List Key × V)} {k:List Key} {v:V} (e:H a=some (.dT kvs)) (eb:H b=some (.tup (k.map kV))) (hl:kvs.length < sizeLine) :
  DPut H a (.ref b) v (upd H a (.dT (putK kvs k v))):=.inr ⟨kvs,k,b,e,rfl,eb,hl,rfl⟩
section
variable {X:Cx} {pins:List (Addr × Obj)} {σ:St} {H:Hp} {s:Shared} {a:Addr} {y v:V} {u r:Value} {o:Option V} {A:Around} {E:Value→Shared→Prop}
theorem Inv.big (I:Inv X pins σ H s):sysModules < s.heap.objs.size:=by
 have h:mainGlobals < s.heap.objs.size:=(I.mod.glob.keeps I.bk).lt
 exact Nat.lt_trans (by decide) h
theorem d_getItem {Q:Value→Shared→Prop} (hu:A.units + 1 < cLine) (I:Inv X pins σ H s) (g:DGet H a y (some v)) (ry:RelV y u) (h:∀ w' s',Inv X pins σ H s'→RelV v w'→Q w' s') :
  wpAny (model X.prog X.w) A (getItem (.ref a) u) Q E s:=by
 rcases g with ⟨kvs,k,e,ey,l⟩ | ⟨kvs,k,b,e,ey,eb,l⟩
 ·subst ey
  obtain ⟨z,hd,vs,rel,dd⟩:=dk_rd I.hok e
  obtain ⟨w',hw,rw'⟩:=RelO.some_of (v:=v) (o:=valueAt vs k) (by rw [l];exact rel.val k)
  exact wpAny_getItem_of (kV_is ry) dd.mapOf hw (h w' _ (I.tok _) rw')
 ·subst ey
  cases (show u=Value.ref b from ry)
  obtain ⟨z,hd,xs,rel,dd⟩:=dt_rd I.hok e
  obtain ⟨w',hw,rw'⟩:=RelO.some_of (v:=v) (o:=(atKey xs k).map (·.2)) (by rw [l];exact rel.val k)
  obtain ⟨p,hp,hp2⟩:=Option.map_eq_some_iff.mp hw
  refine wpAny_getItem_heap (tupleKind_room_in1 hu) (key_of I.hok eb) dd hp ?_
  rw [hp2]
  exact h w' _ (I.tok _) rw'
theorem d_notIn {Q:Value→Shared→Prop} (hu:A.units + 1 < cLine) (I:Inv X pins σ H s) (g:DGet H a y o) (ry:RelV y u) (h:∀ s',Inv X pins σ H s'→Q (.bool (!o.isSome)) s') :
  wpAny (model X.prog X.w) A (compareOp .NotIn u (.ref a)) Q E s:=by
 rcases g with ⟨kvs,k,e,ey,l⟩ | ⟨kvs,k,b,e,ey,eb,l⟩
 ·subst ey
  obtain ⟨z,hd,vs,rel,dd⟩:=dk_rd I.hok e
  refine wpAny_notIn_of (kV_is ry) hd dd.mapOf ?_
  rw [← (rel.val k).isSome_eq,← l]
  exact h _ (I.tok _)
 ·subst ey
  cases (show u=Value.ref b from ry)
  obtain ⟨z,hd,xs,rel,dd⟩:=dt_rd I.hok e
  refine wpAny_notIn_heap (tupleKind_room_in1 hu) (key_of I.hok eb) hd dd ?_
  have q:=(rel.val k).isSome_eq
  rw [Option.isSome_map] at q
  rw [← q,← l]
  exact h _ (I.tok _)
theorem d_write {h':Heap} {t':Nat} {ob:HO} (I:Inv X pins σ H s) (mu:Mut (H a)) (hs:Heap.SameBut a s.heap h') (he:∃ q,h'.get? a=some q) (new:ObjOk X.prog X.w (upd H a ob) h' a ob) :
  Inv X pins σ (upd H a ob) { s with heap:=h',toks:=t' }:=
 I.write (x:=a) (e:=a) mu (.inl rfl) (fun b q hb z=>(hs.2 b hb).trans z) he new
theorem dk_new {P:Program} {w:World} {H':Hp} {h':Heap} {kvs:List (Key × V)} {vs:List (Key × Value)} (z:kvs.length≤sizeLine) (hd:(a == sysModules)=false) (rel:KV kvs vs) (dd:h'.DictOf (mixKind P w) a vs) :
  ObjOk P w H' h' a (.dK kvs):=⟨z,hd,vs,rel,dd⟩
theorem d_setItem {H':Hp} {Q:Unit→Shared→Prop} (hu:A.units + 1 < cLine) (I:Inv X pins σ H s) (g:DPut H a y v H') (ry:RelV y u) (rv:RelV v r) (h:∀ s',Inv X pins σ H' s'→Q () s') :
  wpAny (model X.prog X.w) A (setItem (.ref a) u r) Q E s:=by
 rcases g with ⟨kvs,k,e,ey,l,eH⟩ | ⟨kvs,k,b,e,ey,eb,l,eH⟩
 ·subst ey eH
  obtain ⟨z,hd,vs,rel,dd⟩:=dk_of I.hok e
  have hz:vs.length≤sizeLine:=by rw [← rel.length];exact z
  have hl:(putK kvs k v).length≤sizeLine:=by have:=length_putK kvs k v;omega
  refine wpAny_setItem_pairs (hsz:=hz) (kV_is ry) dd fun h' dd' hs=>h _ ?_
  have he:∃ q,h'.get? a=some q:=let ⟨q,_,_,hq,_⟩:=dd';⟨q,hq⟩
  exact d_write I (by rw [e];exact True.intro) hs he (dk_new hl hd (rel.put k rv) dd')
 ·subst ey eH
  cases (show u=Value.ref b from ry)
  obtain ⟨z,hd,xs,rel,dd⟩:=dt_of I.hok e
  have hz:xs.length≤sizeLine:=by rw [← Paired.length rel];exact z
  have hl:(putK kvs k v).length≤sizeLine:=by have:=length_putK kvs k v;omega
  refine wpAny_setItem_heap (hsz:=hz) (tupleKind_room_in1 hu) (key_of I.hok eb) dd fun h' dd' hs=>h _ ?_
  obtain ⟨q,es,ep,hq,h2,h3,h4,_,h5⟩:=dd'
  refine d_write I (by rw [e];exact True.intro) hs ⟨q,hq⟩ ⟨hl,hd,_,(rel.put k eb rv).keeps fun c ys ec=>?_,q,es,ep,hq,h2,h3,h4,h5⟩
  rw [upd_ne (ne_of ec e (fun z=>nomatch z))]
  exact ec
end
section
variable {X:Cx} {pins:List (Addr × Obj)} {σ:St} {H:Hp} {s:Shared} {a:Addr} {kvs:List (Key × V)} {k:Key} {u:Value} {A:Around} {E:Value→Shared→Prop}
theorem d_len {Q:Value→Shared→Prop} (I:Inv X pins σ H s) (e:Rd H a (.dK kvs)) (h:∀ t s',Inv X pins σ H s'→Q (.int kvs.length t) s'):wpAny (model X.prog X.w) A (call (.builtin "len") [.ref a]) Q E s:=by
 obtain ⟨z,hd,vs,rel,dd⟩:=dk_rd I.hok e
 refine call_len_dict hd dd (by rw [← rel.length];rw [sizeLine_eq] at z;omega) ?_
 rw [← rel.length]
 exact h _ _ (I.tok _)
end
def NoSl (i:Expr):Prop:=∀ ov iv,subscripted i false ov iv=operate [ov,iv] (getItem ov iv)
theorem subD_of {prog:Program} {w:World} {A:Around} {E:Value→Shared→Prop} {s:Shared} {env:Env} {value slice:Expr} {pos:Pos} {T id:String} {Q:Value→Shared→Prop}
  (hl:typeLookup (.type T) "__getitem__" = pure (some (.builtin id))) (hs:NoSl slice)
  (h:wpAny (model prog w) A (eval value env) (fun o s₁=>wpAny (model prog w) A (eval slice env) (fun i s₂=>s₂.TypeIs o T∧wpAny (model prog w) A (getItem o i) Q E s₂) E s₁) E s) :
  wpAny (model prog w) A (eval (.Subscript value slice pos) env) Q E s:=by
 refine Subscript_ (wpAny_mono h (fun o s₁ h₁=>wpAny_mono h₁ (fun i s₂ h₂=>?_) fun _ _ x=>x) fun _ _ x=>x)
 obtain ⟨hT,h₂⟩:=h₂
 unfold subscriptTail
 refine wpAny_bind ?_
 rw [getitemInPython_of_ne hT.not_modules]
 refine wpAny_bind (wpAny_specialOf hT hl ?_)
 have fin:wpAny (model prog w) A (subscripted slice false o i) (fun r s₃=>wpAny (model prog w) A (letTemporaryGo value o r >>= fun _=>pure r) Q E s₃) E s₂:=by
  rw [hs o i]
  exact wpAny_operating (wpAny_mono h₂ (fun r s₃ h₃=>wpAny_bind (wpAny_letTemporaryGo (wpAny_pure h₃))) fun _ _ x=>x)
 first
  | exact wpAny_pure (wpAny_bind fin)
  | exact wpAny_bind (wpAny_pure (wpAny_bind fin))
  | exact wpAny_bind fin
theorem dict_typeIs {X:Cx} {pins:List (Addr × Obj)} {σ:St} {H:Hp} {s:Shared} {a:Addr} {y:V} {o:Option V} (I:Inv X pins σ H s) (g:DGet H a y o):s.TypeIs (.ref a) "dict":=by
 rcases g with ⟨kvs,k,e,_,_⟩ | ⟨kvs,k,b,e,_,_,_⟩
 ·obtain ⟨_,_,vs,_,dd⟩:=dk_rd I.hok e
  exact dd.typeIs
 ·obtain ⟨_,_,xs,_,dd⟩:=dt_rd I.hok e
  exact dd.typeIs
def tDGet (td ty:TE):TE:=fun σ H Q=>td σ H fun x H1=>ty σ H1 fun y H2=>∃ a v,x=.ref a∧DGet H2 a y (some v)∧Q v H2
def tDIn (ty td:TE):TE:=fun σ H Q=>ty σ H fun y H1=>td σ H1 fun x H2=>∃ a o,x=.ref a∧DGet H2 a y o∧Q (.bl o.isSome) H2
def tDNotIn (ty td:TE):TE:=fun σ H Q=>ty σ H fun y H1=>td σ H1 fun x H2=>∃ a o,x=.ref a∧DGet H2 a y o∧Q (.bl (!o.isSome)) H2
def sDPut (td ty tv:TE):TS:=fun D σ H=>tv σ H fun v H1=>td σ H1 fun x H2=>ty σ H2 fun y H3=>∃ a H4,x=.ref a∧DPut H3 a y v H4∧D.nx σ H4
section
variable {X:Cx} {o i e value:Expr} {pos pos' tpos:Pos} {td ty tv:TE}
theorem pe_dget (hu:X.A.units + 1 < cLine) (ho:PE X o td) (hi:PE X i ty) (hs:NoSl i):PE X (.Subscript o i pos) (tDGet td ty):=by
 intro pins s σ H Q I h
 refine subD_of PySem.F.slot_dict_getitem.lookup hs (thn (ho pins s σ H _ I h) fun u s1 ⟨x,H1,I1,rx,q1⟩=>thn (hi pins s1 σ H1 _ I1 q1) fun iv s2 ⟨y,H2,I2,ry,a,v,ex,g,q2⟩=>?_)
 subst ex
 obtain rfl:u=Value.ref a:=rx
 exact ⟨dict_typeIs I2 g,d_getItem hu I2 g ry fun w' s3 I3 rw'=>⟨v,H2,I3,rw',q2⟩⟩
theorem pc_dnotin (hu:X.A.units + 1 < cLine) (hi:PE X i ty) (ho:PE X o td):PC X .NotIn i o (tDNotIn ty td):=by
 intro pins s σ H Q I h
 refine thn (hi pins s σ H _ I h) fun iv s1 ⟨y,H1,I1,ry,q1⟩=>thn (ho pins s1 σ H1 _ I1 q1) fun u s2 ⟨x,H2,I2,rx,a,ov,ex,g,q2⟩=>?_
 subst ex
 obtain rfl:u=Value.ref a:=rx
 exact d_notIn hu I2 g ry fun s3 I3=>⟨.bl (!ov.isSome),H2,I3,rfl,q2⟩
theorem ps_dput (hu:X.A.units + 1 < cLine) (ho:PE X o td) (hi:PE X i ty) (hv:PE X value tv) (hs:swapsWith value (some (.Subscript o i pos')) pos.line X.env=pure false) :
  PS X (.Assign [.Subscript o i pos'] value pos) (sDPut td ty tv):=by
 intro pins s σ H D I h
 refine wpAny_Assign_Subscript (thn (hv pins s σ H _ I h) fun r s1 ⟨v,H1,I1,rv,q1⟩=>thn (ho pins s1 σ H1 _ I1 q1) fun u s2 ⟨x,H2,I2,rx,q2⟩=>thn (hi pins s2 σ H2 _ I2 q2) fun iv s3 ⟨y,H3,I3,ry,a,H4,ex,g,q3⟩=>?_) hs
 subst ex
 obtain rfl:u=Value.ref a:=rx
 exact d_setItem hu I3 g ry rv fun s4 I4=>⟨σ,H4,I4,q3⟩
end
theorem dk_empty {P:Program} {w:World} {H:Hp} (h:Heap) (hb:sysModules < h.objs.size):ObjOk P w H (h.push { cls:=.type "dict",data:=.dict #[] }) h.objs.size (.dK []):=
 ⟨Nat.zero_le _,beq_eq_false_iff_ne.mpr (Ne.symm (Nat.ne_of_lt hb)),[],.nil,Heap.DictOf.new h⟩
def tDNewK:TE:=fun _ H Q=>∀ p,H p=none→Q (.ref p) (upd H p (.dK []))
section
variable {X:Cx} {pos:Pos}
theorem pe_dnewK:PE X (.Dict [] [] pos) tDNewK:=fun pins s σ H Q I h=>
 wpAny_Dict_empty ⟨.ref s.heap.objs.size,_,I.laid (a:=s.heap.objs.size) (o:=.dK []) (t':=s.toks) (fun _ _ q=>Heap.get?_push_of_some _ q) (Nat.le_refl _) (dk_empty s.heap I.big),rfl,h _ (I.hok.fresh (Nat.le_refl _))⟩
end
def tPairs:List (TE × TE)→St→Hp→(List (V × V)→Hp→Prop)→Prop
 | [],_,H,Q=>Q [] H
 | (tk,tv) :: r,σ,H,Q=>tk σ H fun x H1=>tv σ H1 fun y H2=>tPairs r σ H2 fun ps H3=>Q ((x,y) :: ps) H3
abbrev VV:List (V × V)→List (Value × Value)→Prop:=Paired fun p q=>RelV p.1 q.1∧RelV p.2 q.2
def PPs (X:Cx) (pos:Pos) (keys:List (Option Expr)) (values:List Expr) (trs:List (TE × TE)):Prop:=
 ∀ (pins:List (Addr × Obj)) (s:Shared) (σ:St) (H:Hp) (Q:List (V × V)→Hp→Prop),Inv X pins σ H s→tPairs trs σ H Q →
  wpAny (model X.prog X.w) X.A (evalPairs (pairTrees keys values X.env pos)) (fun vs s'=>∃ ps H',Inv X pins σ H' s'∧VV ps vs∧Q ps H') X.xe s
theorem pps_nil {X:Cx} {pos:Pos}:PPs X pos [] [] []:=fun pins s σ H Q I h=>pairTrees_nil_walk ⟨[],H,I,.nil,h⟩
theorem pps_cons {X:Cx} {pos:Pos} {k v:Expr} {ks:List (Option Expr)} {vs:List Expr} {tk tv:TE} {trs:List (TE × TE)} (hk:PE X k tk) (hv:PE X v tv) (hr:PPs X pos ks vs trs) :
  PPs X pos (some k :: ks) (v :: vs) ((tk,tv) :: trs):=fun pins s σ H Q I h=>
 pairTrees_cons_walk (thn (hk pins s σ H _ I h) fun u s1 ⟨x,H1,I1,rx,q1⟩=>thn (hv pins s1 σ H1 _ I1 q1) fun w2 s2 ⟨y,H2,I2,ry,q2⟩=>
  thn (hr pins s2 σ H2 _ I2 q2) fun ws s3 ⟨ps,H3,I3,rel,q3⟩=>⟨(x,y) :: ps,H3,I3,.cons ⟨rx,ry⟩ rel,q3⟩)
def mergeK (kvs more:List (Key × V)):List (Key × V):=more.foldl (fun acc kv=>putK acc kv.1 kv.2) kvs
theorem KV.merge:∀ {more:List (Key × V)} {rs:List (Key × Value)} {kvs:List (Key × V)} {vs:List (Key × Value)},KV more rs→KV kvs vs→KV (mergeK kvs more) (merged vs rs):=by
 intro more rs kvs vs r
 unfold KV at r
 induction r generalizing kvs vs with
 | nil=>intro q;exact q
 | @cons p q ps qs h t ih=>
  intro r0
  have e:KV (putK kvs p.1 p.2) (stored vs q.1 q.2):=by
   have:=r0.put p.1 h.2
   rw [← h.1];exact this
  exact ih e
theorem length_mergeK:∀ (more kvs:List (Key × V)),(mergeK kvs more).length≤kvs.length + more.length
 | [],kvs=>by show kvs.length≤kvs.length + 0;omega
 | p :: r,kvs=>by
  have h1:=length_mergeK r (putK kvs p.1 p.2)
  have h2:=length_putK kvs p.1 p.2
  show (mergeK (putK kvs p.1 p.2) r).length≤_
  rw [List.length_cons];omega
theorem carries_of {P:Program} {w:World}:∀ {kvs:List (Key × V)} {ws:List (Value × Value)},VV (kvs.map fun kv=>(kV kv.1,kv.2)) ws→∃ rs,Carries (mixKind P w) ws rs∧KV kvs rs
 | [],_,r=>by rw [List.map_nil] at r;cases r;exact ⟨[],True.intro,.nil⟩
 | p :: kvs,_,r=>by
  rw [List.map_cons] at r
  cases r with
  | @cons a b as bs h t=>
   obtain ⟨rs,c,q⟩:=carries_of (P:=P) (w:=w) t
   obtain ⟨b1,b2⟩:=b
   exact ⟨(p.1,b2) :: rs,⟨kV_is h.1,rfl,c⟩,.cons ⟨rfl,h.2⟩ q⟩
def tDisp (trs:List (TE × TE)):TE:=fun σ H Q=>∀ p,H p=none→tPairs trs σ (upd H p (.dK [])) fun ps H2=>H2 p=some (.dK [])∧∃ kvs:List (Key × V),ps=kvs.map (fun kv=>(kV kv.1,kv.2))∧kvs.length≤15∧Q (.ref p) (upd H2 p (.dK (mergeK [] kvs)))
theorem pe_disp {X:Cx} {pos:Pos} {keys:List (Option Expr)} {values:List Expr} {trs:List (TE × TE)} (h:PPs X pos keys values trs) (hall:keys.all (·.isSome)=true) (hl:keys.length=values.length) (h0:keys≠[])
  (h15:keys.length≤15):PE X (.Dict keys values pos) (tDisp trs):=by
 intro pins s σ H Q I q
 have hn:=I.hok.fresh (Nat.le_refl s.heap.objs.size)
 have I1:=I.laid (a:=s.heap.objs.size) (o:=.dK []) (h':=s.heap.push { cls:=.type "dict",data:=.dict #[] }) (t':=s.toks) (fun _ _ q=>Heap.get?_push_of_some _ q) (Nat.le_refl _) (dk_empty s.heap I.big)
 refine wpAny_Dict_walk (knd:=mixKind X.prog X.w) hall hl h0 h15 (thn (h pins _ σ _ _ I1 (q _ hn)) fun ws s2 ⟨ps,H2,I2,rel,e,kvs,ep,lk,q2⟩=>?_)
 subst ep
 obtain ⟨rs,c,rk⟩:=carries_of (P:=X.prog) (w:=X.w) rel
 obtain ⟨z,hd,vs0,r0,dd⟩:=dk_of I2.hok e
 cases r0
 refine ⟨rs,c,dd,fun h' dd' hs=>⟨.ref s.heap.objs.size,_,?_,rfl,q2⟩⟩
 have hz:(mergeK [] kvs).length≤sizeLine:=by
  have h1:=length_mergeK kvs []
  rw [List.length_nil] at h1
  rw [sizeLine_eq];omega
 have he:∃ q,h'.get? s.heap.objs.size=some q:=let ⟨q,_,_,hq,_⟩:=dd';⟨q,hq⟩
 exact d_write I2 (by rw [e];exact True.intro) hs he (dk_new hz hd (rk.merge .nil) dd')
structure M1 (X:Cx) (o:Expr) (m:Str) (apos:Pos) (e:Expr) (cpos:Pos):Prop where
 base:attributeBase o m X.env (eval o X.env)=eval o X.env
 few:((backTo cpos (starEach [e] X.env)).all (fun x=>!x.1) && (backToKw cpos (keywordEach [] X.env)).all (fun x=>x.1.isSome)
  && decide (([e]:List Expr).length + ([]:List Keyword).length + (if ([]:List Keyword).isEmpty then 0 else 1) < 30))=true
 line:(apos.endLine == cpos.line)=true
 trees:backTo cpos (starEach [e] X.env)=[(false,eval e X.env)]
structure M2 (X:Cx) (o:Expr) (m:Str) (apos:Pos) (e f:Expr) (cpos:Pos):Prop where
 base:attributeBase o m X.env (eval o X.env)=eval o X.env
 few:((backTo cpos (starEach [e,f] X.env)).all (fun x=>!x.1) && (backToKw cpos (keywordEach [] X.env)).all (fun x=>x.1.isSome)
  && decide (([e,f]:List Expr).length + ([]:List Keyword).length + (if ([]:List Keyword).isEmpty then 0 else 1) < 30))=true
 line:(apos.endLine == cpos.line)=true
 trees:backTo cpos (starEach [e,f] X.env)=[(false,eval e X.env),(false,eval f X.env)]
def IsD (H:Hp) (a:Addr):Prop:=(∃ kvs,Rd H a (.dK kvs))∨∃ kvs,Rd H a (.dT kvs)
theorem isD_at {X:Cx} {pins:List (Addr × Obj)} {σ:St} {H:Hp} {s:Shared} {a:Addr} (I:Inv X pins σ H s) (d:IsD H a) :
  s.TypeIs (.ref a) "dict"∧(∀ b,Value.ref a=.ref b→∃ ob,s.heap.get? b=some ob∧ob.dict=none)∧(a == sysModules)=false:=by
 rcases d with ⟨kvs,e⟩ | ⟨kvs,e⟩
 ·obtain ⟨_,hd,vs,_,dd⟩:=dk_rd I.hok e
  refine ⟨dd.typeIs,fun b q=>?_,hd⟩
  cases q
  obtain ⟨ob,_,_,h1,h2,_⟩:=dd
  exact ⟨ob,h1,h2.2.1⟩
 ·obtain ⟨_,hd,xs,_,dd⟩:=dt_rd I.hok e
  refine ⟨dd.typeIs,fun b q=>?_,hd⟩
  cases q
  obtain ⟨ob,_,_,h1,h2,_⟩:=dd
  exact ⟨ob,h1,h2.2.1⟩
section
variable {X:Cx} {pins:List (Addr × Obj)} {σ:St} {H:Hp} {s:Shared} {a:Addr} {y d:V} {u r:Value} {o:Option V} {A:Around} {E:Value→Shared→Prop}
end
def tDGet2 (td ty tx:TE):TE:=fun σ H Q=>td σ H fun x H1=>∃ a,x=.ref a∧IsD H1 a∧ty σ H1 fun y H2=>tx σ H2 fun z H3=>∃ o,DGet H3 a y o∧Q (o.getD z) H3
section
variable {X:Cx} {o e f:Expr} {apos cpos:Pos} {td ty tx:TE}
end
section
variable {X:Cx} {pins:List (Addr × Obj)} {σ:St} {H:Hp} {s:Shared} {a:Addr} {kvs:List (Key × V)} {A:Around} {E:Value→Shared→Prop}
end
section
variable {X:Cx} {pins:List (Addr × Obj)} {σ:St} {H:Hp} {s:Shared} {a:Addr} {y:V} {u:Value} {A:Around} {E:Value→Shared→Prop}
end
end L2
namespace Att
open PySem PySem.W PySem.Calls PyProof.Rows
theorem ints_of_wellAll {P:Params} {h:Heap}:∀ (ns:List Int) (vs:List Value),WellAll P h vs (ns.map WData.int)→IntsAre vs ns:=by
 intro ns
 induction ns with
 | nil=>
  intro vs w
  rw [List.map_nil] at w
  cases w
  exact .nil
 | cons n ns ih=>
  intro vs w
  rw [List.map_cons] at w
  cases w with
  | cons a b=>
   cases a
   exact .cons _ _ (ih _ b)
theorem script_of {l:OpenLaw} {n:Nat} (hn:l.most=some n) {P:Params} {h:Heap} {args:List WData} {vals:List Value}
  (hpre:l.row.toRowW.claim.pre args=true) (hwl:WellAll P h vals args) :
  ∃ a vs ns,vals=[Value.ref a]∧args=[WData.list (ns.map WData.int)]∧h.get? a=some { cls:=.type "list",data:=.seq vs.toArray }∧IntsAre vs ns∧ns.length≤n:=by
 have hsh:WShape.hasAll [] args [.list .int]=true:=(pre_splitW hpre).1
 have hc:l.pre.holds [] { args:=args } = true:=(pre_splitW hpre).2
 obtain ⟨d,r,rfl,h1,h2⟩:=hasAllW_cons hsh
 obtain rfl:=hasAllW_nil h2
 obtain ⟨xs,rfl,h3⟩:=hasW_list h1
 obtain ⟨ns,rfl⟩:=items_int h3
 have hlen:ns.length≤n:=by
  unfold OpenLaw.pre at hc
  have h4:(WTm.not (.lt (.lit (.int (n:Int))) (.len (.arg 0)))).holds [] { args:=[.list (ns.map .int)] } = true:=by
   have h4:=(holds_andW hc).1
   rw [hn] at h4
   exact h4
  have h5:=condW_of h4 (w_not (w_lt w_lit (w_len_list (w_arg rfl))))
  rw [List.length_map] at h5
  refine Nat.le_of_not_lt fun q=>?_
  have q':(n:Int) < ((ns.length:Nat):Int):=by omega
  first
   | (rw [decide_eq_true q'] at h5;exact absurd h5 (by decide))
   | (simp at h5;omega)
 cases hwl with
 | cons w1 w2=>
  cases w2
  cases w1 with
  | list ho hall=>exact ⟨_,_,ns,rfl,rfl,ho,ints_of_wellAll ns _ hall,hlen⟩
theorem post_true (l:OpenLaw) (args:List WData):l.row.toRowW.claim.post args (.bool true) args=true:=
 postW_of (r:=l.row.toRowW) (X:=(true == true))
  (show WShape.has [] (.bool true) .bool=true by first | rfl | decide | simp [WShape.has,WShape.arms,WShape.armsAll])
  (show (WTm.eq .res (.lit (.bool true))).value [] { args:=args,res:=some (.bool true),after:=args } = some (.bool (true == true)) from w_eq_bool (w_res rfl) w_lit) rfl
theorem attach_call {l:OpenLaw} {n:Nat} {q:Program} {loose:List Str} {XP:(Str→Option Value)→Heap→Prop} {YP:World→Heap→Prop} {d:DefRec}
  (hn:l.most=some n) (hdf:d.params.defaults=[])
  (call:∀ (w:World) (s₀ s₁:Shared) (mg mb:Str→Option Value) (fa:Addr) (o:Obj) (pm cd doc:Value) (a:Addr) (vs:List Value) (ns:List Int),
   Ground q loose [] XP w s₀ mg mb s₁.heap→YP w s₁.heap →
   s₁.heap.get? fa=some o→o.data=.func (docDef d.name d.params d.body d.scope pm cd doc)→s₁.heap.CodeRec cd d.name→mg d.name=some (.ref fa) →
   s₁.heap.get? a=some { cls:=.type "list",data:=.seq vs.toArray }→IntsAre vs ns→ns.length≤n→s₁.gens=#[] →
   codeAny (model l.prog w) callerA (.call (.ref fa) ⟨[.ref a],[]⟩) (fun r s'=>r=.ok (.ret (.bool true))∧OldK s₁.heap s'.heap∧s'.os=s₁.os∧AllBare s'.gens) s₁) :
  WalkO q loose XP YP l.row.toRowW d [] (fun f vs=>PySem.call f vs):=by
 intro w s₀ s₁ mg mb G Y fa o pm cd doc dV kV ho hd hcd hD hmg hg args vals as hpre hlay hrd hwl hlo
 obtain rfl:dV=.none:=Dflts.none hD hdf
 obtain rfl:kV=.none:=Dflts.noKw hD
 obtain ⟨a,vs,ns,rfl,rfl,hobj,hints,hlen⟩:=script_of hn hpre hwl
 refine enter_call (codeAny_mono (call w s₀ s₁ mg mb fa o pm cd doc a vs ns G Y ho (fd_plain hd) hcd hmg hobj hints hlen hg) fun r s' hq=>?_)
 obtain ⟨rfl,h2,h3,h4⟩:=hq
 exact ⟨.inl ⟨.bool true,.bool true,[],rfl,fun _=>rfl,.bool true,post_true l _,fun _=>⟨List.Pairwise.nil,fun _ hm=>(nomatch hm)⟩⟩,h2,h3,h4⟩
section
variable {prog:Program} {w:World} {A:Around} {E:Value→Shared→Prop} {s:Shared} {K:Frag}
def ledger (h:Heap) (L d:Addr):List (Addr × Obj):=(List.range h.objs.size).filterMap fun a=>if a=L∨a=d then none else (h.get? a).map fun o=>(a,o)
end
end Att
namespace L2
open PySem PySem.Spec PyProof.Rows
theorem vals_ints:∀ {vs:List Value} {ns:List Int},IntsAre vs ns→Vals (ns.map V.int) vs
 | _,_,.nil=>.nil
 | _,_,.cons n t h=>.cons ⟨t,rfl⟩ (vals_ints h)
def Only (H:Hp):Prop:=∀ b,H b=none∨∃ o xs,H b=some (.frz o (.lst xs))
theorem law_call {P:Program} {w:World} {K:PySem.W.Frag} {mg mb:Str→Option Value} {CX:CXT} {k:Nat} {fa a:Addr} {fd:FuncData} {x:Str} {sp:Sp} {s₁:Shared} {vs:List Value} {ns:List Int}
  (KX:K.In s₁.heap) (hns:s₁.heap.Ns mainGlobals mg) (hb:s₁.heap.Ns builtinsNs mb) (hbb:∀ x:Str,x≠"__name__"→mb x=bootBuiltins x) (hlim:s₁.heap.NoLimit) (hg:s₁.gens=#[])
  (ha:s₁.heap.get? a=some { cls:=.type "list",data:=.seq vs.toArray }) (hi:IntsAre vs ns) (hl:ns.length≤sizeLine) (hr:Room k callerA)
  (F:∀ base:Heap,K.In base→base.Ns mainGlobals mg→FnOk P w K mg base CX k fa fd [x] sp) (hbind:∀ (s:Shared) (u:Value),BindsTo s fd ⟨[u],[]⟩ [(x,u)])
  (hsp:∀ H:Hp,Only H→SqL K H a (ns.map V.int)→sp [.ref a] H (fun v _=>v=.bl true) fun _ _ _=>False)
  (hCX:∀ H e s',CX [] H s₁ (fun _ _ _=>False) e s'→False) :
  codeAny (model P w) callerA (.call (.ref fa) ⟨[.ref a],[]⟩) (fun r s'=>r=.ok (.ret (.bool true))∧OldK s₁.heap s'.heap∧s'.os=s₁.os∧AllBare s'.gens) s₁:=by
 have rv:=vals_ints hi
 have lenV:=hi.length
 -- from an abstract heap in which nothing but the script may be tracked
 have core:∀ H:Hp,Only H→SqL K H a (ns.map V.int)→HOk P w H s₁.heap→(∀ b,H b≠none→b=a)→(H a≠none→K.lookup a=none) →
   codeAny (model P w) callerA (.call (.ref fa) ⟨[.ref a],[]⟩) (fun r s'=>r=.ok (.ret (.bool true))∧OldK s₁.heap s'.heap∧s'.os=s₁.os∧AllBare s'.gens) s₁:=by
  intro H hO hS hok hA hK
  have base_of:∀ {b:Addr} {o:Obj},s₁.heap.get? b=some o→H b=none→(hidT s₁.heap H).get? b=some o:=fun e n=>hidT_get e n
  have noA:∀ {b:Addr} {o:Obj} {es:Array DictEntry} {ep:Nat},s₁.heap.get? b=some o→o.data=.dict es ep→H b=none:=fun {b o es ep} e d=>by
   cases q:H b with
   | none=>rfl
   | some u=>
    have e':b=a:=hA b (by rw [q];simp)
    subst e'
    rw [ha] at e;cases e
    have d':Data.seq vs.toArray _=Data.dict es ep:=d
    cases d'
  have nsK:∀ {b:Addr} {m:Str→Option Value},s₁.heap.Ns b m→(hidT s₁.heap H).Ns b m:=fun {b m} ⟨o,es,ep,e,d,r⟩=>⟨o,es,ep,base_of e (noA e d),d,r⟩
  have hKb:K.In (hidT s₁.heap H):=fun b o e=>base_of (KX b o e) (by
   cases q:H b with
   | none=>rfl
   | some u=>
    have e':b=a:=hA b (by rw [q];simp)
    subst e'
    rw [hK (by rw [q];simp)] at e;cases e)
  have hM:Mod K mg (hidT s₁.heap H):=⟨hKb,nsK hns,⟨mb,nsK hb,hbb⟩,let ⟨mc,h1,h2⟩:=hlim;⟨mc,nsK h1,h2⟩⟩
  have e0:Env0 P w K mg (hidT s₁.heap H) callerA [] s₁ H:=⟨rfl,hM,fun b o e=>of_hidT e,Nat.le_of_eq (hidT_size _ _),trivial,fun b hb=>absurd (show b∈([]:List Addr) from hb) (by simp),hok,.of_eq hg⟩
  refine codeAny_mono ((F _ hKb (nsK hns)).run callerA [] s₁ H ⟨[.ref a],[]⟩ [.ref a] [.ref a] _ _ hr e0 (hbind s₁ (.ref a)) (.cons rfl .nil) (hsp H hO hS)) fun r s' h=>?_
  cases r with
  | error e=>exact (hCX H e s' h).elim
  | ok fl=>
   cases fl with
   | next=>exact False.elim h
   | brk=>exact False.elim h
   | cont=>exact False.elim h
   | ret u=>
    obtain ⟨v,H',os,bare,un,hok',r',q⟩:=h
    have q':v=.bl true:=q
    subst q'
    obtain rfl:u=Value.bool true:=r'
    refine ⟨rfl,OldK.of_keep fun b o e=>?_,os,bare⟩
    cases q:H b with
    | none=>exact un.keep b o e q (by intro z;exact absurd (show b∈([]:List Addr) from z) (by simp)) (by simp)
    | some u=>
     rcases hO b with z | ⟨ob,xs,z⟩
     ·rw [q] at z;cases z
     ·have z2:=un.frzs b ob _ z
      obtain ⟨e1,_⟩:=hok b _ z
      obtain ⟨e2,_⟩:=hok' b _ z2
      rw [e] at e1;cases e1
      exact e2
 cases hk:K.lookup a with
 | some o=>
  -- the script is one of the module's own objects
  have e:=KX a o hk
  rw [ha] at e
  cases e
  refine core (fun _=>none) (fun _=>.inl rfl) (.inr ⟨_,vs.toArray,_,hk,rfl,rfl,rfl,by rw [List.size_toArray,lenV];exact hl,by simpa using rv⟩) (fun b u z=>by have z':(none:Option HO)=some u:=z;cases z') (fun b z=>absurd rfl z) fun z=>absurd rfl z
 | none=>
  refine core (fun b=>if b=a then some (.frz { cls:=.type "list",data:=.seq vs.toArray } (.lst (ns.map V.int))) else none) (fun b=>?_) (.inl (.inr ⟨{ cls:=.type "list",data:=.seq vs.toArray },if_pos rfl⟩)) (fun b u z=>?_) (fun b z=>?_) fun _=>hk
  ·by_cases hb:b=a
   ·exact .inr ⟨_,_,if_pos hb⟩
   ·exact .inl (if_neg hb)
  ·by_cases hb:b=a
   ·have z':=(if_pos hb).symm.trans z
    cases z'
    subst hb
    exact ⟨ha,by rw [List.length_map];exact hl,vs,_,rv,ha⟩
   ·have z':=(if_neg hb).symm.trans z
    cases z'
  ·by_cases hb:b=a
   ·exact hb
   ·exact absurd (if_neg hb) z
end L2
namespace L2
open PySem PySem.Spec PyProof.Rows
theorem walk_of {l:PySem.W.OpenLaw} {n k:Nat} {q:Program} {loose:List Str} {XP:(Str→Option Value)→Heap→Prop} {YP:World→Heap→Prop} {d:DefRec} {K:Params→PySem.W.Frag} {CX:World→CXT} {sp:World→Sp} {x:Str}
  (hn:l.most=some n) (hn2:n≤sizeLine) (hdf:d.params.defaults=[]) (hr:Room k callerA)
  (hY:∀ (w:World) (h:Heap),YP w h→(K w.params).In h)
  (F:∀ (w:World) (mg:Str→Option Value) (fa:Addr) (h:Heap),(K w.params).In h→h.Ns mainGlobals mg→mg d.name=some (.ref fa) →
   ∃ fd:FuncData,(∀ (s:Shared) (u:Value),BindsTo s fd ⟨[u],[]⟩ [(x,u)]) ∧
    ∀ base:Heap,(K w.params).In base→base.Ns mainGlobals mg→FnOk l.prog w (K w.params) mg base (CX w) k fa fd [x] (sp w))
  (hsp:∀ (w:World) (H:Hp) (a:Addr) (ns:List Int),ns.length≤n→Only H→SqL (K w.params) H a (ns.map V.int)→sp w [.ref a] H (fun v _=>v=.bl true) fun _ _ _=>False)
  (hCX:∀ (w:World) (H:Hp) (s:Shared) (e:Value) (s':Shared),CX w [] H s (fun _ _ _=>False) e s'→False) :
  PySem.W.WalkO q loose XP YP l.row.toRowW d [] (fun f vs=>PySem.call f vs):=by
 refine Att.attach_call hn hdf fun w s₀ s₁ mg mb fa o pm cd doc a vs ns G Y ho hd hcd hmg hobj hints hlen hg=>?_
 have KX:=hY w _ Y
 obtain ⟨fd,hb,hF⟩:=F w mg fa _ KX G.T.g hmg
 exact law_call KX G.T.g G.T.b G.T.builtins G.T.nolimit hg hobj hints (Nat.le_trans hlen hn2) hr hF hb (fun H hO hS=>hsp w H a ns hlen hO hS) fun H e s'=>hCX w H s₁ e s'
end L2
namespace L2
open PySem PySem.Spec PyProof.Rows
def defArgs (s:Stmt):Arguments:=match s with
 | .FunctionDef _ a _ _ _ _ _ _ _ _=>a
 | _=>{ posonlyargs:=[],args:=[],vararg:=none,kwonlyargs:=[],kw_defaults:=[],kwarg:=none,defaults:=[] }
def defBody (s:Stmt):List Stmt:=match s with
 | .FunctionDef _ _ b _ _ _ _ _ _ _=>b
 | _=>[]
def defScope (s:Stmt):Scope:=match s with
 | .FunctionDef _ _ _ _ _ _ sc _ _ _=>sc
 | _=>{ kind:=.function,names:=[],isGenerator:=false,isCoroutine:=false }
abbrev CX0:CXT:=fun _ _ _ _ _ _=>False
abbrev E0:XK:=fun _ _ _=>False
theorem pass0 {X:Cx}:Passes CX0 X E0:=fun _ _ _ _ _ _ _ h=>h.elim
structure Fun (K:PySem.W.Frag) (x qual:Str) (st:Stmt) (f:Addr) (fd:FuncData):Prop where
 ex:∃ (oc:Value) (od:Option Addr) (kV doc pm:Value) (an:Option Addr) (cdv ct:Value) (osl:Array (Option Value)),
  fd=PySem.W.fnOf x qual (defArgs st) (defBody st) (defScope st) .none kV doc pm an cdv ct∧K.lookup f=some ⟨oc,od,.func fd,osl⟩∧PySem.W.codeIn K cdv qual=true
 kp:PySem.W.keepIn K (.ref f)=true
section
variable {P:Program} {w:World} {K:PySem.W.Frag} {mg:Str→Option Value} {base:Heap}
theorem Fun.ok {x qual:Str} {st:Stmt} {f:Addr} {fd:FuncData} {N ps:List Str} {k:Nat} {sp:Sp} (F:Fun K x qual st f fd) (S:FnScope N ps (defScope st)) (len:∀ vs H Q E,sp vs H Q E→vs.length=ps.length)
  (hbody:∀ (cdv:Value) (A:Around) (outer:List Env) (s:Shared) (H:Hp) (vs:List V) (Q:VK) (E:XK),Room k (A.deeper (envOfC qual (defScope st) s.heap.objs.size f cdv))→sp vs H Q E →
   ∃ t,PSs (cxOf CX0 P w K mg base N qual (defScope st) f cdv A outer s H E).nox (defBody st) t∧t { nx:=fun _ H'=>Q .non H',rt:=Q } (start N vs) H):FnOk P w K mg base CX0 (k + 1) f fd ps sp:=by
 obtain ⟨oc,od,kV,doc,pm,an,cdv,ct,osl,rfl,lk,hcd⟩:=F.ex
 refine fn_of lk hcd S len fun A outer s H vs Q E hr hsp=>?_
 obtain ⟨t,h,q⟩:=hbody cdv A outer s H vs Q E hr hsp
 exact ⟨t,h.nox,q⟩
theorem Fun.binds {x qual:Str} {st:Stmt} {f:Addr} {fd:FuncData} {ps:List Str} (F:Fun K x qual st f fd)
  (h:∀ (kV doc pm:Value) (an:Option Addr) (cdv ct:Value) (us:List Value),us.length=ps.length→bindArgs (PySem.W.fnOf x qual (defArgs st) (defBody st) (defScope st) .none kV doc pm an cdv ct) ⟨us,[]⟩=pure (ps.zip us)):Binds K fd ps []:=by
 obtain ⟨oc,od,kV,doc,pm,an,cdv,ct,osl,rfl,lk,hcd⟩:=F.ex
 exact .all (h kV doc pm an cdv ct)
theorem fun_mk {x qual:Str} {st:Stmt} {f:Addr} {oc:Value} {od an:Option Addr} {osl:Array (Option Value)} {kV doc pm cdv ct:Value} (l:K.lookup f=some ⟨oc,od,.func (PySem.W.fnOf x qual (defArgs st) (defBody st) (defScope st) .none kV doc pm an cdv ct),osl⟩)
  (c:PySem.W.codeIn K cdv qual=true) (k:PySem.W.keepIn K (.ref f)=true):Fun K x qual st f (PySem.W.fnOf x qual (defArgs st) (defBody st) (defScope st) .none kV doc pm an cdv ct):=⟨⟨oc,od,kV,doc,pm,an,cdv,ct,osl,rfl,l,c⟩,k⟩
end
section
variable {X:Cx}
theorem pv (i:Nat) {x:Str} {pos:Pos} (hN:X.N[i]?=some x:=by rfl) (hv:Vis X.env.scope x:=by first | exact Or.inl rfl | exact Or.inr (Or.inl rfl) | exact Or.inr (Or.inr rfl)) (hd:(x == ("__debug__":Str))=false:=by decide)
  (hcd:(x == ("__classdict__":Str))=false:=by decide):PE X (.Name x pos) (tVar i):=pe_var hN hv hd hcd
theorem call_lenD:CallR X (.builtin "len") (fun xs H Q=>∃ a kvs,xs=[V.ref a]∧H a=some (.dK kvs)∧Q (.int kvs.length) H):=by
 intro pins s σ H xs us Q I r h
 obtain ⟨a,kvs,rfl,ha,q⟩:=h
 obtain ⟨u,rfl,ru⟩:=vals1 r
 cases ru
 exact d_len I (.inl ha) fun t s' I'=>⟨.int kvs.length,H,I',⟨t,rfl⟩,q⟩
end
def Same (H H':Hp):Prop:=∀ b o,H b=some o→H' b=some o
theorem Same.refl (H:Hp):Same H H:=fun _ _ h=>h
theorem Same.trans {H H1 H2:Hp} (a:Same H H1) (b:Same H1 H2):Same H H2:=fun c o h=>b c o (a c o h)
theorem Same.free {H H':Hp} (e:Same H H') {l:Addr} (h:H' l=Option.none):H l=Option.none:=by
 cases q:H l with
 | none=>rfl
 | some o=>
  rw [e l o q] at h
  cases h
theorem Same.seq {K:PySem.W.Frag} {H H':Hp} {a:Addr} {xs:List V} (e:Same H H') (h:SqL K H a xs):SqL K H' a xs:=by
 rcases h with (h | ⟨o,h⟩) | h
 ·exact .inl (.inl (e _ _ h))
 ·exact .inl (.inr ⟨o,e _ _ h⟩)
 ·exact .inr h
section
variable {κ:Type} [DecidableEq κ]
theorem valV_not {kvs:List (κ × V)} {k:κ} (h:valV kvs k=none):¬ k∈kvs.map (·.1):=by
 intro m
 obtain ⟨p,hp,e⟩:=List.mem_map.mp m
 have q:(kvs.any fun kv=>decide (kv.1=k))=true:=List.any_eq_true.mpr ⟨p,hp,decide_eq_true e⟩
 rw [valV_any,h] at q
 exact absurd q (by simp)
end
end L2
set_option Elab.async false
set_option linter.all false
set_option maxRecDepth 100000
namespace PySem
open Sem (wp)
open Builtin Builtin.Str Builtin.Int
namespace F
theorem owner_rvs:Manifest.owners.lookup "reversed" = some Manifest.sig_reversed:=by kernel_rfl
theorem slot_rvs_next:Slot "reversed" "__next__" "reversed.__next__":=
 .of (owner:="reversed") (n:="__next__") (by rw [typeLookup_type,builtinLookup_eq_fast];kernel_rfl) (by decide +kernel) (by decide +kernel) (by decide +kernel)
  (by first | exact .inl (by decide +kernel) | exact .inr (by decide +kernel)) (by rw [isSubtype_type];kernel_rfl)
theorem entry_rvs_next:entryFor table "reversed.__next__" = some Builtin.«reversed.__next__»:=entryFor_of_tree (by kernel_rfl)
theorem slot_rvs_iter:Slot "reversed" "__iter__" "reversed.__iter__":=
 .of (owner:="reversed") (n:="__iter__") (by rw [typeLookup_type,builtinLookup_eq_fast];kernel_rfl) (by decide +kernel) (by decide +kernel) (by decide +kernel)
  (by first | exact .inl (by decide +kernel) | exact .inr (by decide +kernel)) (by rw [isSubtype_type];kernel_rfl)
theorem args_rvs_next_1 (a:Value):argsOk "reversed.__next__" ⟨[a],[]⟩:=by
 unfold argsOk;rw [signature?_of (id:="reversed.__next__") (n:=['_','_','t','x','e','n','_','_']) (o:=['d','e','s','r','e','v','e','r']) (by kernel_rfl) owner_rvs];kernel_rfl
theorem args_rvs_iter_1 (a:Value):argsOk "reversed.__iter__" ⟨[a],[]⟩:=by
 unfold argsOk;rw [signature?_of (id:="reversed.__iter__") (n:=['_','_','r','e','t','i','_','_']) (o:=['d','e','s','r','e','v','e','r']) (by kernel_rfl) owner_rvs];kernel_rfl
theorem entry_rvs_iter:entryFor table "reversed.__iter__" = some Builtin.«dict_keyiterator.__iter__»:=
 entryFor_alias (id':="dict_keyiterator.__iter__") (by kernel_rfl) (by first | rfl | decide +kernel | (unfold String.splitOn;simp +decide [String.splitOnAux])) (by decide +kernel) (by kernel_rfl)
end F
section
variable {prog:Program} {w:World} {A:Around} {E:Value→Shared→Prop} {s:Shared}
def Heap.IsRvs (h:Heap) (a:Addr) (x:Str) (t:Tok) (i:Int):Prop:=∃ o,h.get? a=some o∧o.cls=.type "reversed"∧o.data=.fields #[.str x t,rawInt i]
theorem Heap.IsRvs.typeIs {a:Addr} {x:Str} {t:Tok} {i:Int} (y:s.heap.IsRvs a x t i):s.TypeIs (.ref a) "reversed":=let ⟨o,ho,hc,_⟩:=y;⟨o,ho,hc⟩
theorem Heap.IsRvs.at {h h':Heap} {a:Addr} {x:Str} {t:Tok} {i:Int} (y:h.IsRvs a x t i) (e:∀ o,h.get? a=some o→h'.get? a=some o):h'.IsRvs a x t i:=let ⟨o,ho,r⟩:=y;⟨o,e _ ho,r⟩
theorem wpAny_pyNext_rvs_item {it:Addr} {x:Str} {t:Tok} {i c:Nat} {Q:Option Value→Shared→Prop} (hit:s.heap.IsRvs it x t (i:Int)) (hx:x.cps[i]?=some c) (hsz:i < 2 ^ 63)
  (hQ:∀ h' tk tk',h'.IsRvs it x t ((i:Int) - 1)→Heap.SameBut it s.heap h'→Q (some (.str ⟨#[c]⟩ tk)) { s with heap:=h',toks:=tk' }):wpAny (model prog w) A (pyNext (.ref it)) Q E s:=by
 obtain ⟨o,ho,hc,hd⟩:=id hit
 have hlen:i < x.length:=(Array.getElem?_eq_some_iff.mp hx).1
 unfold pyNext
 refine wpAny_bind (wpAny_attempt (wpAny_callSpecial?_slot (name:=Str.ofString "__next__") hit.typeIs F.slot_rvs_next
  (wpAny_call_entry F.slot_rvs_next hit.typeIs F.entry_rvs_next ?_ (F.args_rvs_next_1 _))))
 unfold Builtin.«reversed.__next__»
 refine wpAny_bind (wpAny_of_eq (a:=(Value.ref it,[])) rfl ?_)
 try dsimp only
 refine wpAny_bind (wpAny_field ho hd (x:=.str x t) rfl ?_)
 refine wpAny_bind (wpAny_field ho hd (x:=rawInt (i:Int)) rfl ?_)
 show wpAny _ _ (if (i:Int) < 0 then _ else _) _ _ s
 rw [if_neg (by omega)]
 refine wpAny_bind (wpAny_specialOf (typeIs_str s x t) F.slot_str_getitem.lookup ?_)
 try dsimp only
 first
 | rw [if_neg (show ¬ ((some (Value.builtin "str.__getitem__")).isNone=true) from Bool.false_ne_true)]
 | skip
 refine wpAny_bind (wpAny_mkInt ?_)
 refine wpAny_bind (wpAny_attempt ?_)
 have hb:(seqIndex? (i:Int) x.length).bind (x.cps[·]?)=some c:=by
  have e:seqIndex? (i:Int) x.length=some i:=by
   have hn:¬ ((i:Int) < 0):=by omega
   unfold seqIndex?
   simp [hn,hlen]
  rw [e]
  exact hx
 refine P.getItem_str (c:=c) (by simp;omega) hb ?_
 dsimp only
 refine wpAny_bind (wpAny_field ho hd (x:=rawInt (i:Int)) rfl ?_)
 show wpAny _ _ (setField (Value.ref it) 1 (rawInt ((i:Int) - 1)) >>= fun _=>ret (Value.str ⟨#[c]⟩ _)) _ _ _
 refine wpAny_bind (wpAny_setField ho hd (by simp) ?_)
 refine wpAny_pure ⟨_,rfl,wpAny_pure (hQ _ _ _ ?_ (Heap.SameBut.update ..))⟩
 exact ⟨_,Heap.get?_update_self _ ho (Obj.isFreed_of_fields (Obj.data_mapFields hd _)),(Obj.cls_mapFields ..).trans hc,by
  rw [Obj.data_mapFields hd];simp⟩
theorem wpAny_pyNext_rvs_end {it:Addr} {x:Str} {t:Tok} {Q:Option Value→Shared→Prop} (hh:A.handled=none) (hit:s.heap.IsRvs it x t (-1))
  (hQ:∀ h',Heap.ExtBut it s.heap h'→Q none { s with heap:=h' }):wpAny (model prog w) A (pyNext (.ref it)) Q E s:=by
 obtain ⟨o,ho,hc,hd⟩:=id hit
 unfold pyNext
 refine wpAny_bind (wpAny_attempt (wpAny_callSpecial?_slot (name:=Str.ofString "__next__") hit.typeIs F.slot_rvs_next
  (wpAny_call_entry F.slot_rvs_next hit.typeIs F.entry_rvs_next ?_ (F.args_rvs_next_1 _))))
 unfold Builtin.«reversed.__next__»
 refine wpAny_bind (wpAny_of_eq (a:=(Value.ref it,[])) rfl ?_)
 try dsimp only
 refine wpAny_bind (wpAny_field ho hd (x:=.str x t) rfl ?_)
 refine wpAny_bind (wpAny_field ho hd (x:=rawInt (-1)) rfl ?_)
 show wpAny _ _ (if (-1:Int) < 0 then _ else _) _ _ s
 rw [if_pos (by decide)]
 refine wpAny_bind (wpAny_rule ?_)
 show wpAny _ _ ((setField (Value.ref it) 1 (rawInt (-1)) >>= fun _=>setField (Value.ref it) 0 .none) >>= _) _ _ _
 refine wpAny_bind (wpAny_bind (wpAny_setField ho hd (by simp) ?_))
 have ho1:=Heap.get?_update_self (Obj.mapFields (·.setIfInBounds 1 (rawInt (-1)))) ho (Obj.isFreed_of_fields (Obj.data_mapFields hd _))
 refine wpAny_setField ho1 (Obj.data_mapFields hd _) (by simp) ?_
 dsimp only
 show wpAny _ _ (SmallTypes.stopIteration >>= _) _ _ _
 refine wpAny_bind ?_
 unfold SmallTypes.stopIteration
 first
 | show wpAny _ _ (newExc (.type "StopIteration") [] >>= _) _ _ _
 | (refine wpAny_bind ?_;show wpAny _ _ (newExc (.type "StopIteration") [] >>= _) _ _ _)
 refine wpAny_bind ?_
 simp only [newExc,newTuple]
 refine wpAny_bind (wpAny_newObj_type ?_ (by size_fits))
 refine wpAny_bind (m:=firstArgMember _ _) (wpAny_of_eq (a:=Value.none) (by first | rfl | (simp only [firstArgMember];rfl)) ?_)
 refine wpAny_newObj_type ?_ (by size_fits)
 simp only [raiseNew]
 refine wpAny_bind (wpAny_handled ?_)
 first | rw [show A.in1.handled=none from hh] | rw [hh]
 refine wpAny_bind (wpAny_pure (wpAny_throw ?_))
 refine wpAny_bind (wpAny_isInstance (T:="StopIteration") (b:=true) ⟨_,Heap.get?_push_size _ rfl,rfl⟩ isSubtype_stop ?_)
 refine wpAny_pure (hQ _ ?_)
 intro b ob hb eb
 exact Heap.get?_push_of_some _ (Heap.get?_push_of_some _ ((Heap.get?_update_other _ _ (Ne.symm hb)).trans ((Heap.get?_update_other _ _ (Ne.symm hb)).trans eb)))
theorem wpAny_pyIter_rvs {it:Addr} {x:Str} {t:Tok} {i:Int} {Q:Value→Shared→Prop} (hit:s.heap.IsRvs it x t i) (h:Q (.ref it) s):wpAny (model prog w) A (pyIter (.ref it)) Q E s:=by
 refine wpAny_pyIter_slot hit.typeIs F.slot_rvs_iter (wpAny_call_entry F.slot_rvs_iter hit.typeIs F.entry_rvs_iter ?_ (F.args_rvs_iter_1 _))
 show wpAny _ _ (ret (.ref it)) _ _ s
 exact wpAny_pure ⟨_,rfl,"reversed",_,hit.typeIs,F.slot_rvs_next.lookup,h⟩
theorem Walks.rvs {A:Around} (hh:A.handled=none) (I:Addr) (x:Str) (t:Tok) (hz:x.length≤sizeLine) :
  Walks prog w A I [I] [I] x.length (fun i v=>∃ c tk,x.cps[x.length - 1 - i]?=some c∧v=.str ⟨#[c]⟩ tk) (fun i h=>i≤x.length∧h.IsRvs I x t ((x.length:Int) - 1 - (i:Int))) where
 sub:=fun b hb=>hb
 frame:=fun _ _ _ y hk=>⟨y.1,y.2.at fun o e=>hk I (by simp) o e⟩
 item:=fun i s Q E hi y hQ=>by
  have e:(x.length:Int) - 1 - (i:Int)=((x.length - 1 - i:Nat):Int):=by omega
  have hit:=y.2
  rw [e] at hit
  have hb:x.length - 1 - i < x.cps.size:=by have:x.length=x.cps.size:=rfl;omega
  have hx:x.cps[x.length - 1 - i]?=some (x.cps[x.length - 1 - i]'hb):=Array.getElem?_eq_getElem hb
  have hs:sizeLine=16777216:=sizeLine_eq
  refine wpAny_pyNext_rvs_item hit hx (by omega) fun h' tk tk' hit' hs'=>?_
  have e2:((x.length - 1 - i:Nat):Int) - 1=(x.length:Int) - 1 - ((i + 1:Nat):Int):=by omega
  rw [e2] at hit'
  exact hQ _ h' tk' ⟨_,tk,hx,rfl⟩ ⟨hi,hit'⟩ fun b o hb eo=>hs'.extBut b o (fun h=>hb (by simp [h])) eo
 done:=fun s Q E y hQ=>by
  have e:(x.length:Int) - 1 - (x.length:Int) = -1:=by omega
  have hit:=y.2
  rw [e] at hit
  exact wpAny_pyNext_rvs_end hh hit fun h' he'=>hQ h' s.toks fun b o hb eo=>he' b o (fun h=>hb (by simp [h])) eo
 self:=fun _ _ _ _ y hQ=>wpAny_pyIter_rvs y.2 hQ
end
namespace F
end F
section
variable {prog:Program} {w:World} {A:Around} {E:Value→Shared→Prop} {s:Shared}
end
end PySem
set_option Elab.async false
set_option linter.all false
set_option maxRecDepth 100000
namespace L2
open PySem PySem.Spec PyProof.Rows
def capOf (env:Env):List (Str × NameKind)→List (Str × Addr)→List (Str × Addr)
 | [],acc=>acc
 | (n,k) :: r,acc=>if k == .free then capOf env r ((n,(env.cells.lookup n).getD 0) :: acc) else capOf env r acc
theorem closure_cap {env:Env}:∀ (ns:List (Str × NameKind)) (acc:List (Str × Addr)),(∀ x∈ns,x.2=.free→∃ c,env.cells.lookup x.1=some c) →
  (forIn ns acc fun (x:Str × NameKind) (cs:List (Str × Addr))=>(if x.2 == .free then do
    let c ← cellOf env x.1
    pure (ForInStep.yield ((x.1,c) :: cs))
   else pure (ForInStep.yield cs):Sem (ForInStep (List (Str × Addr)))))=pure (capOf env ns acc)
 | [],acc,_=>rfl
 | (n,k) :: r,acc,h=>by
  have ih:=fun a=>closure_cap (env:=env) r a fun x hx=>h x (List.mem_cons_of_mem _ hx)
  rw [List.forIn_cons]
  by_cases hk:k=.free
  ·subst hk
   obtain ⟨c,hc⟩:=h (n,.free) List.mem_cons_self rfl
   have hc':env.cells.lookup n=some c:=hc
   have e1:cellOf env n=pure c:=by unfold cellOf;rw [hc']
   simp only [capOf,hc',Option.getD_some]
   show ((do let c ← cellOf env n;pure (ForInStep.yield ((n,c) :: acc))) >>= _)=_
   rw [e1,pure_bind,pure_bind]
   exact ih _
  ·have e2:(k == NameKind.free)=false:=by simpa using hk
   simp only [capOf,e2,Bool.false_eq_true,if_false]
   rw [pure_bind]
   exact ih _
theorem closureFor_cap {env:Env} {scope:Scope} (h:∀ x∈scope.names,x.2=.free→∃ c,env.cells.lookup x.1=some c) :
  closureFor scope env=pure (capOf env scope.names []):=by
 unfold closureFor
 have e:=closure_cap (env:=env) scope.names [] h
 have e2:(forIn scope.names ([]:List (Str × Addr)) fun x cs=>(match x with
   | (name,kind)=>if kind == .free then do
     let c ← cellOf env name
     pure (ForInStep.yield ((name,c) :: cs))
    else pure (ForInStep.yield cs):Sem (ForInStep (List (Str × Addr)))))=pure (capOf env scope.names []):=e
 simp only [] at e2 ⊢
 first
  | (rw [e2];rfl)
  | (erw [e2];rfl)
theorem cap_lookup {env:Env}:∀ {ns:List (Str × NameKind)} {acc:List (Str × Addr)} {x:Str} {c:Addr},(∀ y∈ns,y.2=.free→∃ c,env.cells.lookup y.1=some c) →
  (∀ y c,acc.lookup y=some c→env.cells.lookup y=some c)→(capOf env ns acc).lookup x=some c→env.cells.lookup x=some c
 | [],_,_,_,_,ha,e=>ha _ _ e
 | (n,k) :: r,acc,x,c,h,ha,e=>by
  have hr:∀ y∈r,y.2=.free→∃ c,env.cells.lookup y.1=some c:=fun y hy=>h y (List.mem_cons_of_mem _ hy)
  unfold capOf at e
  by_cases hk:k=.free
  ·subst hk
   rw [if_pos (by simp)] at e
   obtain ⟨c',hc⟩:=h (n,.free) List.mem_cons_self rfl
   have hc':env.cells.lookup n=some c':=hc
   refine cap_lookup hr (fun y d z=>?_) e
   rw [hc',Option.getD_some,List.lookup_cons] at z
   by_cases q:y=n
   ·subst q
    simp at z
    subst z
    exact hc'
   ·have q':(y == n)=false:=by simpa using q
    rw [q'] at z
    exact ha y d z
  ·rw [if_neg (by simpa using hk)] at e
   exact cap_lookup hr ha e
theorem cap_has {env:Env}:∀ {ns:List (Str × NameKind)} {acc:List (Str × Addr)} {x:Str},((∃ c,acc.lookup x=some c)∨(x,NameKind.free)∈ns)→∃ c,(capOf env ns acc).lookup x=some c
 | [],_,_,h=>by
  rcases h with h | h
  ·exact h
  ·exact nomatch h
 | (n,k) :: r,acc,x,h=>by
  unfold capOf
  by_cases hk:k=.free
  ·subst hk
   rw [if_pos (by simp)]
   refine cap_has ?_
   by_cases q:x=n
   ·subst q
    left
    simp [List.lookup_cons]
   ·have q':(x == n)=false:=by simpa using q
    rcases h with ⟨c,h⟩ | h
    ·exact .inl ⟨c,by rw [List.lookup_cons,q'];exact h⟩
    ·rcases List.mem_cons.mp h with z | z
     ·cases z
      exact absurd rfl q
     ·exact .inr z
  ·rw [if_neg (by simpa using hk)]
   refine cap_has ?_
   rcases h with h | h
   ·exact .inl h
   ·rcases List.mem_cons.mp h with z | z
    ·cases z
     exact absurd rfl hk
    ·exact .inr z
def relabelS (scope osc:Scope):Scope:=
 { scope with names:=scope.names.map fun (n,k)=>if (k == .free && osc.kind == .function && osc.names.lookup n == some .cell) then (n,.cell) else (n,k) }
def compOk (scope osc:Scope):Bool:=
 (scope.kind == .function) && (osc.kind == .function) && scope.names.all fun (n,k)=>(k != .free || !scope.names.contains (n,NameKind.cell)) && (k != .local || scope.names.lookup n == some .local) &&
  (k != .free || osc.names.lookup n == some .cell || osc.names.lookup n == some .free) && (k != .free || (relabelS scope osc).names.lookup n != some .local)
structure CompOk (scope osc:Scope):Prop where
 kind:scope.kind=.function
 sep:∀ x∈scope.names,x.2=.free→(x.1,NameKind.cell) ∉ scope.names
 loc:∀ x∈scope.names,x.2=.local→scope.names.lookup x.1=some .local
 free:∀ x∈scope.names,x.2=.free→osc.names.lookup x.1=some .cell∨osc.names.lookup x.1=some .free
 nl:∀ x∈scope.names,x.2=.free→(relabelS scope osc).names.lookup x.1≠some .local
theorem CompOk.of {scope osc:Scope} (h:compOk scope osc=true):CompOk scope osc:=by
 unfold compOk at h
 rw [Bool.and_eq_true,Bool.and_eq_true,List.all_eq_true] at h
 obtain ⟨⟨h1,h0⟩,h2⟩:=h
 refine ⟨by simpa using h1,fun x hx e=>?_,fun x hx e=>?_,fun x hx e=>?_,fun x hx e=>?_⟩
 all_goals
  obtain ⟨n,k⟩:=x
  have q:=h2 (n,k) hx
  simp only [Bool.and_eq_true,Bool.or_eq_true,bne_iff_ne,beq_iff_eq] at q
 ·have z:=q.1.1.1.resolve_left (fun z=>z e)
  simpa using z
 ·exact q.1.1.2.resolve_left (fun z=>z e)
 ·rcases q.1.2 with (z | z) | z
  ·exact absurd e z
  ·exact .inl z
  ·exact .inr z
 ·exact q.2.resolve_left (fun z=>z e)
theorem lookup_relabel {osc:Scope}:∀ {ns:List (Str × NameKind)} {x:Str} {k':NameKind},
  (ns.map fun (n,k)=>if (k == NameKind.free && osc.kind == .function && osc.names.lookup n == some .cell) then (n,NameKind.cell) else (n,k)).lookup x=some k' →
  (k'=.cell∨k'=.free)→(x,NameKind.free)∈ns∨(x,NameKind.cell)∈ns
 | [],_,_,h,_=>by simp at h
 | (n,k) :: r,x,k',h,hk'=>by
  rw [List.map_cons] at h
  by_cases q:x=n
  ·subst q
   by_cases z:(k == NameKind.free && osc.kind == .function && osc.names.lookup x == some .cell)=true
   ·have:k=.free:=by
     simp only [Bool.and_eq_true,beq_iff_eq] at z
     exact z.1.1
    subst this
    exact .inl List.mem_cons_self
   ·simp only [z,Bool.false_eq_true,if_false] at h
    rw [List.lookup_cons] at h
    simp at h
    subst h
    rcases hk' with e | e
    ·subst e;exact .inr List.mem_cons_self
    ·subst e;exact .inl List.mem_cons_self
  ·have q':(x == n)=false:=by simpa using q
   refine (lookup_relabel (osc:=osc) (k':=k') (ns:=r) (x:=x) ?_ hk').imp (List.mem_cons_of_mem _) (List.mem_cons_of_mem _)
   by_cases z:(k == NameKind.free && osc.kind == .function && osc.names.lookup n == some .cell)=true
   ·simp only [z,if_true] at h
    rw [List.lookup_cons,q'] at h
    exact h
   ·simp only [z,Bool.false_eq_true,if_false] at h
    rw [List.lookup_cons,q'] at h
    exact h
theorem cf_app:∀ (ns:List (Str × NameKind)) (n:Nat) (acc:List (Str × Addr)),cellsFrom n ns acc=cellsFrom n ns [] ++ acc
 | [],_,_=>rfl
 | (x,k) :: r,n,acc=>by
  unfold cellsFrom
  split
  ·rw [cf_app r (n + 1) ((x,n) :: acc),cf_app r (n + 1) [(x,n)],List.append_assoc];rfl
  ·exact cf_app r n acc
theorem cf_mem:∀ {ns:List (Str × NameKind)} {n:Nat} {x:Str} {c:Addr},(x,c)∈cellsFrom n ns []→(x,NameKind.cell)∈ns
 | [],_,_,_,h=>nomatch h
 | (y,k) :: r,n,x,c,h=>by
  unfold cellsFrom at h
  split at h
  ·rename_i hk
   rw [cf_app] at h
   rcases List.mem_append.mp h with h | h
   ·exact List.mem_cons_of_mem _ (cf_mem h)
   ·cases List.mem_singleton.mp h
    have:k=.cell:=by simpa using hk
    subst this
    exact List.mem_cons_self
  ·exact List.mem_cons_of_mem _ (cf_mem h)
theorem cf_has:∀ {ns:List (Str × NameKind)} {n:Nat} {x:Str} {acc:List (Str × Addr)},((x,NameKind.cell)∈ns∨∃ c,acc.lookup x=some c)→∃ c,(cellsFrom n ns acc).lookup x=some c
 | [],_,_,_,h=>h.elim (fun z=>nomatch z) id
 | (y,k) :: r,n,x,acc,h=>by
  unfold cellsFrom
  split
  ·refine cf_has ?_
   by_cases q:x=y
   ·subst q
    exact .inr ⟨n,by simp [List.lookup_cons]⟩
   ·have q':(x == y)=false:=by simpa using q
    rcases h with h | ⟨c,h⟩
    ·rcases List.mem_cons.mp h with z | z
     ·cases z;exact absurd rfl q
     ·exact .inl z
    ·exact .inr ⟨c,by rw [List.lookup_cons,q'];exact h⟩
  ·rename_i hk
   refine cf_has ?_
   rcases h with h | h
   ·rcases List.mem_cons.mp h with z | z
    ·cases z;exact absurd rfl hk
    ·exact .inl z
   ·exact .inr h
def blkCells (env:Env) (scope:Scope) (C:Addr):List (Str × Addr):=cellsFrom (C + 1) scope.names (capOf env scope.names [])
theorem cf_above:∀ {ns:List (Str × NameKind)} {n:Nat} {x:Str} {c:Addr},(x,c)∈cellsFrom n ns []→n≤c
 | [],_,_,_,h=>nomatch h
 | (y,k) :: r,n,x,c,h=>by
  unfold cellsFrom at h
  split at h
  ·rw [cf_app] at h
   rcases List.mem_append.mp h with h | h
   ·exact Nat.le_trans (Nat.le_succ _) (cf_above h)
   ·cases List.mem_singleton.mp h
    exact Nat.le_refl _
  ·exact cf_above h
theorem cf_apart:∀ {ns:List (Str × NameKind)} {n:Nat},(cellsFrom n ns []).Pairwise fun x y=>x.2≠y.2
 | [],_=>List.Pairwise.nil
 | (y,k) :: r,n=>by
  unfold cellsFrom
  split
  ·rw [cf_app]
   refine List.pairwise_append.mpr ⟨cf_apart,by simp,fun a ha b hb e=>?_⟩
   cases List.mem_singleton.mp hb
   have:=cf_above (x:=a.1) (c:=a.2) ha
   rw [e] at this
   exact absurd this (Nat.not_succ_le_self _)
  ·exact cf_apart
theorem blkCells_lookup {env:Env} {scope:Scope} {C:Addr} {x:Str} {c:Addr} (h:(blkCells env scope C).lookup x=some c) :
  ((x,c)∈cellsFrom (C + 1) scope.names []∧C < c∧(x,NameKind.cell)∈scope.names)∨((cellsFrom (C + 1) scope.names []).lookup x=none∧(capOf env scope.names []).lookup x=some c):=by
 unfold blkCells at h
 rw [cf_app,List.lookup_append] at h
 cases q:(cellsFrom (C + 1) scope.names []).lookup x with
 | none=>rw [q] at h;exact .inr ⟨rfl,h⟩
 | some d=>
  rw [q] at h
  cases h
  have:=mem_of_lookup q
  exact .inl ⟨this,cf_above this,cf_mem this⟩
theorem own_none {ns:List (Str × NameKind)} {n:Nat} {x:Str} (h:(x,NameKind.cell) ∉ ns):(cellsFrom n ns []).lookup x=none:=by
 cases q:(cellsFrom n ns []).lookup x with
 | none=>rfl
 | some d=>exact absurd (cf_mem (mem_of_lookup q)) h
section
variable {M:Model} {A:Around} {E:Value→Shared→Prop} {s:Shared}
theorem wpAny_newFunctionEnv_around {scope:Scope} {globals:Addr} {closure:List (Str × Addr)} {qual:Str} {func:Option Addr} {code:Value} {outer:Env} {builtins:Addr} {Q:Env→Shared→Prop}
  (hQ:Q (newEnv scope s.heap.objs.size globals (cellsFrom (s.heap.objs.size + 1) scope.names closure) qual func code (some outer) builtins) { s with heap:=pushCells (s.heap.push { cls:=.type "dict",data:=.dict #[] }) scope.names }) :
  wpAny M A (newFunctionEnv scope globals closure [] qual func code (some outer) builtins) Q E s:=by
 simp only [newFunctionEnv,Option.isSome_some,if_true]
 simp only [newEnv] at hQ
 refine wpAny_bind (wpAny_alloc ?_)
 refine wpAny_bind (wpAny_layCells _ (fun name kind cells=>by cases hkc:kind == NameKind.cell <;> simp [hkc]) _ _ _ _ ?_)
 rw [show ({ s with heap:=s.heap.push { cls:=.type "dict",data:=.dict #[] } }:Shared).heap.objs.size=s.heap.objs.size + 1 from Heap.size_push ..]
 rw [List.forIn_nil]
 exact wpAny_bind (wpAny_pure (wpAny_pure hQ))
end
def Cx.blk (X:Cx) (N':List Str) (s₂:Shared) (H₂:Hp) (scope:Scope) (fp:List Addr) (C:Addr):Cx where
 prog:=X.prog
 w:=X.w
 K:=X.K
 mg:=X.mg
 base:=X.base
 A:=X.A
 N:=N'
 s₀:=s₂
 H₀:=H₂
 env:=compEnvC scope (blkCells X.env scope C) C X.env
 outer:=X.stack
 stack:=X.stack
 ex:=fp
 fn:=fun x=>scope.names.contains (x,NameKind.cell)
 calm:=X.calm
 pn:=[]
 xe:=fun _ _=>False
def blkSt (k:Nat) (js:List Nat) (σ:St):St:=List.replicate k none ++ js.map fun j=>(σ[j]?).join
def blkN (own:List Str) (js:List Nat) (N:List Str):List Str:=own ++ js.map fun j=>N.getD j Str.empty
section
variable {X:Cx}
theorem Inv.capFree {pins:List (Addr × Obj)} {σ:St} {H:Hp} {s:Shared} {scope:Scope} (I:Inv X pins σ H s) (hk:CompOk scope X.env.scope):∀ x∈scope.names,x.2=.free→∃ c,X.env.cells.lookup x.1=some c:=
 fun x hx e=>I.ok.has x.1 (hk.free x hx e)
theorem Inv.capL {pins:List (Addr × Obj)} {σ:St} {H:Hp} {s:Shared} {scope:Scope} {x:Str} {c:Addr} (I:Inv X pins σ H s) (hk:CompOk scope X.env.scope) (e:(capOf X.env scope.names []).lookup x=some c):X.env.cells.lookup x=some c:=
 cap_lookup (I.capFree hk) (fun _ _ z=>by simp at z) e
theorem Inv.blkL {pins:List (Addr × Obj)} {σ:St} {H:Hp} {s:Shared} {scope:Scope} {C:Addr} {x:Str} {c:Addr} (I:Inv X pins σ H s) (hk:CompOk scope X.env.scope) (e:(blkCells X.env scope C).lookup x=some c) :
  ((x,c)∈cellsFrom (C + 1) scope.names []∧C < c∧(x,NameKind.cell)∈scope.names)∨X.env.cells.lookup x=some c:=
 (blkCells_lookup e).imp id fun z=>I.capL hk z.2
theorem blk_ok {pins:List (Addr × Obj)} {σ:St} {H:Hp} {s:Shared} {N':List Str} {scope:Scope} {fp:List Addr} {C:Addr} (I:Inv X pins σ H s) (hk:CompOk scope X.env.scope) (hC:s.heap.objs.size≤C)
  (hf:∀ b∈fp,FpOk X pins H b) (ho:∀ b∈fp,∃ o,s.heap.get? b=some o):(X.blk N' s H scope fp C).Ok where
 mod:=I.ok.mod
 kind:=hk.kind
 glob:=I.ok.glob
 blt:=I.ok.blt
 above:=hC
 inj:=fun x y c e1 e2=>by
  have low:∀ z,X.env.cells.lookup z=some c→c < C:=fun z e=>by
   obtain ⟨v,q⟩:=I.cell z c e
   exact Nat.lt_of_lt_of_le q.lt hC
  rcases I.blkL hk e1 with ⟨a1,a2,_⟩ | a <;> rcases I.blkL hk e2 with ⟨b1,b2,_⟩ | b
  ·exact name_of_addr cf_apart a1 b1
  ·exact absurd (low _ b) (Nat.not_lt.mpr (Nat.le_of_lt a2))
  ·exact absurd (low _ a) (Nat.not_lt.mpr (Nat.le_of_lt b2))
  ·exact I.ok.inj x y c a b
 has:=fun x h=>by
  refine cf_has ?_
  have z:(x,NameKind.free)∈scope.names∨(x,NameKind.cell)∈scope.names:=by
   rcases h with h | h
   ·exact lookup_relabel (osc:=X.env.scope) h (.inl rfl)
   ·exact lookup_relabel (osc:=X.env.scope) h (.inr rfl)
  rcases z with z | z
  ·exact .inr (cap_has (.inr z))
  ·exact .inl z
 cab:=fun x c z e=>by
  have z':(x,NameKind.cell)∈scope.names:=by
   have z2:scope.names.contains (x,NameKind.cell)=true:=z
   simpa using z2
  have e':(blkCells X.env scope C).lookup x=some c:=e
  rcases blkCells_lookup e' with ⟨_,a,_⟩ | ⟨a,_⟩
  ·exact Nat.le_trans hC (Nat.le_of_lt a)
  ·obtain ⟨d,q⟩:=cf_has (n:=C + 1) (acc:=[]) (.inl z')
   rw [a] at q;cases q
 hd:=I.ok.hd
 frames:=I.ok.frames
 stk:=.inl rfl
 exf:=fun b hb=>⟨fun e=>by
  obtain ⟨o,q⟩:=ho b hb
  have e':b=C:=e
  rw [e'] at q
  exact absurd (Heap.lt_size q) (Nat.not_lt.mpr hC),fun x c e=>by
  rcases I.blkL hk e with ⟨_,a,_⟩ | a
  ·obtain ⟨o,q⟩:=ho b hb
   intro z
   rw [z] at a
   exact absurd (Nat.lt_of_lt_of_le (Heap.lt_size q) hC) (Nat.not_lt.mpr (Nat.le_of_lt a))
  ·exact (hf b hb).2.2.2.2.1 x c a⟩
 bs:=I.bs
 bsz:=Nat.le_trans I.ok.bsz I.sz
 noex:=fun b o e hb=>by
  rcases (hf b hb).2.2.2.1 with z | z
  ·exact I.ok.noex b o e z
  ·exact absurd (Heap.lt_size (I.ok.bs b o e).1) (Nat.not_lt.mpr z)
 exfs:=fun b hb hs=>by
  rcases List.mem_cons.mp (I.stkSub b hs) with z | z
  ·exact (hf b hb).2.1 z
  ·exact (hf b hb).2.2.1 z
 funs:=I.stack
 frf:=I.stkFree
theorem blk_start {pins:List (Addr × Obj)} {σ:St} {H:Hp} {s s1:Shared} {own:List Str} {js:List Nat} {scope:Scope} {fp:List Addr} {C:Addr} {m:Str→Option Value} (I:Inv X pins σ H s) (hk:CompOk scope X.env.scope) (hC:s.heap.objs.size≤C)
  (hf:∀ b∈fp,FpOk X pins H b) (ho:∀ b∈fp,∃ o,s.heap.get? b=some o) (hos:s1.os=s.os) (hg:s1.gens=s.gens) (hn:s1.heap.Ns C m) (keep:∀ b o,s.heap.get? b=some o→s1.heap.get? b=some o)
  (hown:∀ x c,(x,c)∈cellsFrom (C + 1) scope.names []→s1.heap.IsCell c none) (hcap:(js.all fun j=>scope.names.contains (X.N.getD j Str.empty,NameKind.free))=true) :
  Inv (X.blk (blkN own js X.N) s H scope fp C) [] (blkSt own.length js σ) H s1:=by
 have cl:=fun {x:Str} {c:Addr} (e:(capOf X.env scope.names []).lookup x=some c)=>cap_lookup (I.capFree hk) (fun _ _ z=>by simp at z) e
 refine ⟨blk_ok I hk hC hf ho,hos,hg ▸ I.bare,Un.kept keep,⟨m,hn,fun i x v e1 e2 e3=>?_⟩,fun x c e=>?_,I.hok.fresh hC,fun x c e=>(I.blkL hk e).elim (fun z=>I.hok.fresh (Nat.le_trans hC (Nat.le_of_lt z.2.1))) fun z=>I.freeC x c z,fun p hp=>(nomatch hp),I.hok.kept keep,?_⟩
 ·have e1':(own ++ js.map fun j=>X.N.getD j Str.empty)[i]?=some x:=e1
  have e2':(List.replicate own.length none ++ js.map fun j=>(σ[j]?).join)[i]?=some (some v):=e2
  by_cases hi:i < own.length
  ·rw [List.getElem?_append_left (by rw [List.length_replicate];exact hi),List.getElem?_replicate,if_pos hi] at e2'
   cases e2'
  ·have hi':own.length≤i:=Nat.le_of_not_lt hi
   rw [List.getElem?_append_right (by rw [List.length_replicate];exact hi'),List.length_replicate,List.getElem?_map] at e2'
   rw [List.getElem?_append_right hi',List.getElem?_map] at e1'
   cases ej:js[i - own.length]? with
   | none=>rw [ej] at e1';cases e1'
   | some j=>
    rw [ej] at e1' e2'
    have ex:X.N.getD j Str.empty=x:=Option.some.inj e1'
    have ev:(σ[j]?).join=some v:=Option.some.inj e2'
    have hj:σ[j]?=some (some v):=by
     cases q:σ[j]? with
     | none=>rw [q] at ev;cases ev
     | some z=>rw [q] at ev;simp at ev;rw [ev]
    have hjl:j < X.N.length:=by rw [← I.len];exact (List.getElem?_eq_some_iff.mp hj).1
    have hN:X.N[j]?=some x:=by rw [← ex,List.getD_eq_getElem?_getD,List.getElem?_eq_getElem hjl];rfl
    have hx:(x,NameKind.free)∈scope.names:=by
     have q:=List.all_eq_true.mp hcap j (List.mem_of_getElem? ej)
     rw [ex] at q
     simpa using q
    have ko:=hk.free _ hx rfl
    obtain ⟨mo,hno,hl⟩:=I.loc
    obtain ⟨u,ru,lk⟩:=hl j x v hN hj (ko.elim (fun z=>.inr (.inl z)) fun z=>.inr (.inr z))
    refine ⟨u,ru,?_⟩
    rcases lk with ⟨kk,_⟩ | ⟨kk,c,ec,hc⟩
    ·rcases ko with z | z
     ·rw [show X.env.kindOf x=X.env.scope.names.lookup x from rfl,z] at kk;cases kk
     ·rw [show X.env.kindOf x=X.env.scope.names.lookup x from rfl,z] at kk;cases kk
    ·obtain ⟨c',hc'⟩:=cap_has (env:=X.env) (ns:=scope.names) (acc:=[]) (x:=x) (.inr hx)
     have:=cl hc'
     rw [ec] at this
     cases this
     refine .inr ⟨?_,c,?_,hc.keeps keep⟩
     case refine_2=>
      show (blkCells X.env scope C).lookup x=some c
      unfold blkCells
      rw [cf_app,List.lookup_append,own_none (hk.sep _ hx rfl)]
      exact hc'
     -- its kind within the block
     rcases e3 with z | z | z
     ·exact absurd z (hk.nl _ hx rfl)
     ·exact .inl z
     ·exact .inr z
 ·rcases I.blkL hk e with z | z
  ·exact ⟨none,hown x c z.1⟩
  ·obtain ⟨v,z⟩:=I.cell x c z
   exact ⟨v,z.keeps keep⟩
 ·show (List.replicate own.length none ++ js.map fun j=>(σ[j]?).join).length=(own ++ js.map fun j=>X.N.getD j Str.empty).length
  simp
def ifsOf (env:Env) (ifs:List Expr):Sem Bool:=forIn ifs true fun c r=>if r=true then do let ok ← isTrue c env (eval c env);pure (ForInStep.yield ok) else pure (ForInStep.yield r)
theorem compLoop_any {prog:Program} {w:World} {A:Around} {R:Result→Shared→Prop} {s:Shared} {elt target iter:Expr} {ifs:List Expr} {scope:Scope} {pos:Pos} {it acc:Value} {env:Env} (I:Nat→Shared→Prop)
  (turn:∀ n s,I n s→wpAny (model prog w) A (pyNext it) (fun r s₁=>match r with
   | none=>R (.ok .next) s₁
   | some v=>wpAny (model prog w) A (letOwnedTupleGo target it v) (fun _ s₁'=>wpAny (model prog w) A (assign target env v) (fun _ s₂=>
     wpAny (model prog w) A (ifsOf env ifs) (fun ok s₃=>
      if ok=true then wpAny (model prog w) A (eval elt env) (fun x s₄=>
       wpAny (model prog w) A (call (.builtin "list.append") [acc,x]) (fun _ s₅=>∃ m,m < n∧I m s₅) (fun _ _=>False) s₄) (fun _ _=>False) s₃
      else ∃ m,m < n∧I m s₃) (fun _ _=>False) s₂) (fun _ _=>False) s₁') (fun _ _=>False) s₁) (fun _ _=>False) s)
  (n:Nat) (h:I n s) :
  codeAny (model prog w) A (.compLoop (.ListComp elt [⟨target,iter,ifs,0⟩] scope pos) 0 it acc env) R s:=by
 refine codeAny_loop rfl I (fun n s hI=>?_) n h
 show wpAny _ A ((compTurn (.ListComp elt [⟨target,iter,ifs,0⟩] scope pos) 0 it acc env).onRaise (fun x=>do noteFrame x env;theTreesLotGoes x)) _ _ s
 refine wpAny_noted ?_
 rw [compTurn_list]
 have up:∀ {α:Type} {t:Sem α} {Q Q':α→Shared→Prop} {E':Value→Shared→Prop} {s:Shared},wpAny (model prog w) A t Q (fun _ _=>False) s→(∀ a s,Q a s→Q' a s)→wpAny (model prog w) A t Q' E' s:=
  fun h hQ=>wpAny_mono h hQ fun _ _ f=>f.elim
 refine wpAny_bind (wpAny_standAt (wpAny_bind (up (turn n s hI) fun r s₁ h₁=>?_)))
 cases r with
 | none=>exact wpAny_pure h₁
 | some v=>
  refine wpAny_bind (up h₁ fun _ s₁' h₁'=>wpAny_bind (up h₁' fun _ s₂ h₂=>wpAny_bind (up h₂ fun ok s₃ h₃=>?_)))
  cases ok with
  | false=>exact wpAny_pure ⟨rfl,h₃⟩
  | true=>
   exact wpAny_bind (wpAny_bind (up h₃ fun x s₄ h₄=>wpAny_bind (up h₄ fun _ s₅ h₅=>wpAny_pure (wpAny_pure ⟨rfl,h₅⟩))))
def PIf (X:Cx) (ifs:List Expr) (t:TT):Prop:=
 ∀ (pins:List (Addr × Obj)) (s:Shared) (σ:St) (H:Hp) (Q:Bool→Hp→Prop),Inv X pins σ H s→t σ H Q→wpAny (model X.prog X.w) X.A (ifsOf X.env ifs) (TP X pins σ Q) X.xe s
def tNoIf:TT:=fun _ H Q=>Q true H
theorem pif_nil {X:Cx}:PIf X [] tNoIf:=fun pins s σ H Q I h=>wpAny_tests_nil ⟨H,I,h⟩
theorem pif_one {X:Cx} {c:Expr} {t:TT} (h:PT X c t):PIf X [c] t:=fun pins s σ H Q I q=>wpAny_tests_one (h pins s σ H Q I q)
def CompW (J:It) (g:TG) (ti:TT) (te:TE) (σ:St) (H:Hp) (Q:List V→Hp→Prop):Prop:=
 ∃ W:Nat→Nat→List V→St→Hp→Prop,(∃ m,W 0 m [] σ H)∧∀ i m acc σ' H',W i m acc σ' H' →
  acc.length < sizeLine∧((J.stop i H'∧Q acc H') ∨
   (J.go i H'∧∃ N:List V→St→Hp→Prop,(∀ acc' σ2 H2,N acc' σ2 H2→∃ m',m' < m∧W (i + 1) m' acc' σ2 H2) ∧
    ∀ x H2,J.yld i H' x H2→g x σ' H2 fun σ2 H3=>ti σ2 H3 fun b H4=>if b=true then te σ2 H4 fun v H5=>N (acc ++ [v]) σ2 H5 else N acc σ2 H4))
def tComp (k:Nat) (js:List Nat) (wi:TI) (g:TG) (ti:TT) (te:TE):TE:=fun σ H Q=>wi σ H fun J H1=>CompW J g ti te (blkSt k js σ) H1 fun acc H'=>∀ l,H' l=none→Q (.ref l) (upd H' l (.lst acc))
abbrev lstObj (its:List Value) (n:Nat):Obj:={ cls:=.type "list",data:=.seq its.toArray n }
theorem comp_core {pins:List (Addr × Obj)} {σ:St} {H:Hp} {s:Shared} {elt tg iter:Expr} {ifs:List Expr} {scope:Scope} {pos:Pos} {own:List Str} {js:List Nat} {g:TG} {ti:TT} {te:TE} {J:It} {fp:List Addr} {it:Addr} {tn:Nat→Heap→Prop} {Q:List V→Hp→Prop} {E:Value→Shared→Prop}
  {RR:Value→Addr→Result→Shared→Prop} (hc:X.calm=true) (hk:CompOk scope X.env.scope) (hcap:(js.all fun j=>scope.names.contains (X.N.getD j Str.empty,NameKind.free))=true)
  (hg:∀ s H fp C,PG (X.blk (blkN own js X.N) s H scope fp C) tg g) (hi:∀ s H fp C,PIf (X.blk (blkN own js X.N) s H scope fp C) ifs ti) (he:∀ s H fp C,PE (X.blk (blkN own js X.N) s H scope fp C) elt te)
  (I:Inv X pins σ H s) (T:Turn X.prog X.w X.K tg J fp it tn) (st:tn 0 s.heap) (hf:∀ b∈fp,FpOk X pins H b)
  (hW:CompW J g ti te (blkSt own.length js σ) H Q)
  (hRR:∀ (D C:Addr) (s':Shared) (H':Hp) (acc:List V) (m:Str→Option Value),Q acc H'→H' D=none→Inv X pins σ (upd H' D (.lst acc)) s'→s'.heap.Ns C m→upd H' D (.lst acc) C=none→C≠X.env.locals→X.s₀.heap.objs.size≤C →
   (∀ x c,X.env.cells.lookup x=some c→c≠C)→(∀ p∈X.pn ++ pins,p.1≠C)→RR (.ref D) C (.ok .next) s') :
  wpAny (model X.prog X.w) X.A (newList []) (fun acc s₃=>wpAny (model X.prog X.w) X.A (newFunctionEnv scope X.env.globals (capOf X.env scope.names []) [] X.env.qual none .none (some X.env)) (fun cenv s₄=>
   codeAny (model X.prog X.w) X.A (.compStart (.ListComp elt [⟨tg,iter,ifs,0⟩] scope pos) 0 (.ref it) acc { cenv with scope:=relabel scope X.env }) (RR acc cenv.locals) s₄) E s₃) E s:=by
 obtain ⟨W,⟨m0,w0⟩,turn⟩:=hW
 refine wpAny_newObj_type (wpAny_newFunctionEnv_around ?_)
 dsimp only
 generalize hH2:s.heap.push { cls:=.type "list",dict:=none,data:=.seq ([]:List Value).toArray } = H2
 generalize hh1:pushCells (H2.push { cls:=.type "dict",data:=.dict #[] }) scope.names=h₁
 have hpk:∀ b o,(H2.push { cls:=.type "dict",data:=.dict #[] }).get? b=some o→h₁.get? b=some o:=fun b o e=>hh1 ▸ pushCells_keeps _ _ b o e
 have hns₁:h₁.Ns H2.objs.size fun _=>none:=by
  have q:(H2.push { cls:=.type "dict",data:=.dict #[] }).Ns H2.objs.size fun _=>none:=Heap.Ns.new ..
  exact q.at' fun o e=>hpk _ o e
 have hown₁:∀ x c,(x,c)∈cellsFrom (H2.objs.size + 1) scope.names []→h₁.IsCell c none:=fun x c e=>by
  have ok:=cellsFrom_ok scope.names (H2.push { cls:=.type "dict",data:=.dict #[] }) (H2.objs.size + 1) [] ⟨fun _ _ hm=>(nomatch hm),List.Pairwise.nil⟩ (by rw [Heap.size_push];exact Nat.le_refl _)
  rw [Heap.size_push,hh1] at ok
  exact (ok.empty x c e).1
 have hC:H2.objs.size=s.heap.objs.size + 1:=by rw [← hH2,Heap.size_push]
 have hDC:s.heap.objs.size≠H2.objs.size:=by rw [hC];exact Nat.ne_of_lt (Nat.lt_succ_self _)
 have hCle:s.heap.objs.size≤H2.objs.size:=by rw [hC];exact Nat.le_succ _
 have below:∀ b,b < s.heap.objs.size→b≠H2.objs.size∧b≠s.heap.objs.size:=fun b hb=>⟨by rw [hC];exact Nat.ne_of_lt (Nat.lt_succ_of_lt hb),Nat.ne_of_lt hb⟩
 have old:∀ b o,s.heap.get? b=some o→h₁.get? b=some o:=fun b o e=>hpk b o (Heap.get?_push_of_some _ (hH2 ▸ Heap.get?_push_of_some _ e))
 have hacc:h₁.get? s.heap.objs.size=some (lstObj [] 0):=hpk _ _ (Heap.get?_push_of_some _ (hH2 ▸ Heap.get?_push_size _ rfl))
 have hob:∀ b∈fp,∃ o,s.heap.get? b=some o:=fun b hb=>let ⟨o,e,_⟩:=T.obj 0 _ st b hb;⟨o,e⟩
 have st₁:tn 0 h₁:=T.keep 0 _ _ st fun b _ o e=>old b o e
 generalize hXb:X.blk (blkN own js X.N) s H scope fp H2.objs.size=Xb
 have I₁:Inv Xb [] (blkSt own.length js σ) H { s with heap:=h₁ }:=hXb ▸ blk_start I hk hCle hf hob rfl rfl hns₁ old hown₁ hcap
 have eP:Xb.prog=X.prog:=by rw [← hXb];rfl
 have ew:Xb.w=X.w:=by rw [← hXb];rfl
 have eK:Xb.K=X.K:=by rw [← hXb];rfl
 have eA:Xb.A=X.A:=by rw [← hXb];rfl
 have ec:Xb.calm=true:=by rw [← hXb];exact hc
 have eE:Xb.env=compEnvC scope (blkCells X.env scope H2.objs.size) H2.objs.size X.env:=by rw [← hXb];rfl
 have ex:Xb.xe=fun _ _=>False:=by rw [← hXb];rfl
 have es:Xb.s₀=s:=by rw [← hXb];rfl
 have eh:Xb.H₀=H:=by rw [← hXb];rfl
 have ef:Xb.fs=frs X.stack:=by rw [← hXb];rfl
 have exx:Xb.ex=fp:=by rw [← hXb];rfl
 have ep:Xb.pn=[]:=by rw [← hXb];rfl
 have eL:Xb.env.locals=H2.objs.size:=by rw [eE];rfl
 have hD0:H s.heap.objs.size=none:=I.hok.fresh (Nat.le_refl _)
 -- D is no iterator's,no frame's
 have hDf:∀ b∈fp,b≠s.heap.objs.size:=fun b hb e=>by
  obtain ⟨o,q⟩:=hob b hb
  rw [e] at q
  exact absurd (Heap.lt_size q) (Nat.lt_irrefl _)
 have hDs:s.heap.objs.size ∉ Xb.fs:=fun z=>by
  rw [ef] at z
  rcases List.mem_cons.mp (I.stkSub _ z) with q | q
  ·exact absurd I.lt (by rw [← q];exact Nat.lt_irrefl _)
  ·exact I.nofs (Nat.le_refl _) q
 have hDcell:∀ x c,Xb.env.cells.lookup x=some c→c≠s.heap.objs.size:=fun x c e q=>by
  rcases I.blkL hk (C:=H2.objs.size) (x:=x) (c:=c) (by rw [eE] at e;exact e) with ⟨_,z,_⟩ | z
  ·rw [q] at z
   exact absurd hCle (Nat.not_le.mpr z)
  ·obtain ⟨v,o,ho,_⟩:=I.cell x c z
   rw [q] at ho
   exact absurd (Heap.lt_size ho) (Nat.lt_irrefl _)
 have stat:∀ {pl:List (Addr × Obj)} {H':Hp},(∀ b∈fp,H' b=none)→(∀ p∈pl,p.1=s.heap.objs.size)→∀ b∈fp,FpOk Xb pl H' b:=fun hn hp b hb=>by
  refine ⟨hn b hb,?_,?_,.inl (by rw [exx];exact hb),fun x c e=>?_,fun p hpp=>?_⟩
  ·rw [eL];exact (below b (let ⟨o,q⟩:=hob b hb;Heap.lt_size q)).1
  ·rw [ef];intro z
   rcases List.mem_cons.mp (I.stkSub b z) with q | q
   ·exact (hf b hb).2.1 q
   ·exact (hf b hb).2.2.1 q
  ·rcases I.blkL hk (C:=H2.objs.size) (x:=x) (c:=c) (by rw [eE] at e;exact e) with ⟨_,z,_⟩ | z
   ·intro q
    rw [q] at z
    obtain ⟨o,q2⟩:=hob b hb
    exact absurd (Nat.lt_of_lt_of_le (Heap.lt_size q2) hCle) (Nat.not_lt.mpr (Nat.le_of_lt z))
   ·exact (hf b hb).2.2.2.2.1 x c z
  ·rw [ep,List.nil_append] at hpp
   rw [hp p hpp]
   exact (hDf b hb).symm
 have loop:∀ s₃:Shared,s₃={ s with heap:=h₁ } →
   codeAny (model X.prog X.w) X.A (.compLoop (.ListComp elt [⟨tg,iter,ifs,0⟩] scope pos) 0 (.ref it) (.ref s.heap.objs.size) (compEnvC scope (blkCells X.env scope H2.objs.size) H2.objs.size X.env))
    (RR (.ref s.heap.objs.size) H2.objs.size) s₃:=by
  rintro s₃ rfl
  refine compLoop_any (fun n s'=>∃ (i:Nat) (acc:List V) (its:List Value) (k:Nat) (σ':St) (H':Hp),Inv Xb [] σ' H' s'∧tn i s'.heap∧(∀ b∈fp,H' b=none)∧H' s.heap.objs.size=none∧s'.heap.get? s.heap.objs.size=some (lstObj its k)∧Vals acc its∧W i n acc σ' H')
   ?_ m0 ⟨0,[],[],0,_,H,I₁,st₁,fun b hb=>(hf b hb).1,hD0,hacc,.nil,w0⟩
  rintro n s' ⟨i,acc,its,k,σ',H',I',st',fr',hD',oD',rv',w'⟩
  obtain ⟨hlen,tt⟩:=turn i n acc σ' H' w'
  -- the gathered list,pinned
  have Ip:Inv Xb [(s.heap.objs.size,lstObj its k)] σ' H' s':=I'.pins_of fun p hp=>by
   have e:p=(s.heap.objs.size,lstObj its k):=by simpa using hp
   subst e
   exact ⟨oD',hD',by rw [eL];exact hDC,hDs,fun v z=>by cases z⟩
  have hpl:∀ p∈[(s.heap.objs.size,lstObj its k)],p.1=s.heap.objs.size:=fun p hp=>by
   have e:p=(s.heap.objs.size,lstObj its k):=by simpa using hp
   rw [e]
  rcases tt with ⟨stop,q⟩ | ⟨go,N,hN,step⟩
  ·have d:=T.done Xb eP ew eK ec i _ s' σ' H' (fun _ _=>False) Ip (stat fr' hpl) st' stop
   rw [eA] at d
   refine wpAny_mono d (fun r s1 hr=>?_) fun _ _ z=>z
   obtain ⟨rfl,I1⟩:=hr
   have oD1:s1.heap.get? s.heap.objs.size=some (lstObj its k):=(I1.pin _ (List.mem_append_right _ (List.mem_singleton.mpr rfl))).1
   obtain ⟨mC,hnC,_⟩:=I1.loc
   rw [eL] at hnC
   obtain ⟨oC,_,_,hoC,_⟩:=id hnC
   have hCH:H' H2.objs.size=none:=by have:=I1.free;rwa [eL] at this
   have ub:Un (frs X.stack) fp H H' s.heap s1.heap:=by have:=I1.base;rwa [ef,exx,eh,es] at this
   refine hRR _ _ s1 H' acc mC q hD' ?_ hnC ?_ ?_ ?_ ?_ ?_
   ·-- back outside
    refine I.call' (ch:=fp) (by have:=I1.os;rwa [es] at this) ⟨fun b o e n1 h1 h2=>ub.keep b o e n1 h1 h2,fun b o e n1 h1 h2=>ub.slot b o e n1 h1 h2,fun b o e n1 h1=>?_,ub.there,fun b xs e=>?_,fun b o u e=>?_,fun b ps e=>?_⟩ ?_ (by have:=I1.bare;exact this) fun b hb=>?_
    ·rw [upd_ne (fun z=>by rw [z] at e;exact absurd (Heap.lt_size e) (Nat.lt_irrefl _))]
     exact ub.free b o e n1 h1
    ·rw [upd_ne (ne_of_none (ub.tups b xs e) hD')]
     exact ub.tups b xs e
    ·rw [upd_ne (ne_of_none (ub.frzs b o u e) hD')]
     exact ub.frzs b o u e
    ·obtain ⟨more,z⟩:=ub.tbls b ps e
     exact ⟨more,by rw [upd_ne (ne_of_none z hD')];exact z⟩
    ·intro b u e
     have hokb:=I1.hok
     rw [eP,ew] at hokb
     by_cases hb:b=s.heap.objs.size
     ·subst hb
      rw [upd_same] at e
      cases e
      exact ⟨Nat.le_of_lt hlen,its,k,rv',oD1⟩
     ·rw [upd_ne hb] at e
      refine (hokb b u e).stay (fun c v _ z=>z) (fun c z=>?_) fun c xs z=>?_
      ·rw [upd_ne (ne_of_none z hD')];exact z
      ·rw [upd_ne (ne_of_none z hD')];exact z
    ·exact ⟨(hf b hb).2.2.2.1,(hf b hb).2.1,(hf b hb).2.2.2.2.1,(hf b hb).2.2.2.2.2⟩
   ·rw [upd_ne hDC.symm];exact hCH
   ·intro z;have:=I.lt;rw [← z] at this;exact absurd this (Nat.not_lt.mpr hCle)
   ·exact Nat.le_trans I.sz hCle
   ·intro x c e z
    obtain ⟨v,o,ho,_⟩:=I.cell x c e
    rw [z] at ho
    exact absurd (Heap.lt_size ho) (Nat.not_lt.mpr hCle)
   ·intro p hp z
    have:=(I.pin p hp).1
    rw [z] at this
    exact absurd (Heap.lt_size this) (Nat.not_lt.mpr hCle)
  ·have d:=T.item Xb eP ew eK ec i _ s' σ' H' (fun _ _=>False) Ip (stat fr' hpl) st' go
   rw [eA] at d
   refine wpAny_mono d (fun r s1 hr=>?_) fun _ _ z=>z
   obtain ⟨u,rfl,d2⟩:=hr
   refine wpAny_mono d2 (fun _ s2 hr2=>?_) fun _ _ z=>z
   obtain ⟨x,H2',I2,r2,y2,st2,fr2⟩:=hr2
   have I2':=I2.pinned (stat fr2 hpl) (T.obj _ _ st2)
   have G:=hXb ▸ hg s H fp H2.objs.size
   have d3:=G _ s2 σ' H2' x u _ I2' r2 (step x H2' y2)
   rw [eP,ew,eA,ex,eE] at d3
   refine wpAny_mono d3 (fun _ s3 hr3=>?_) fun _ _ z=>z
   obtain ⟨σ3,H3,I3,q3⟩:=hr3
   have Gi:=hXb ▸ hi s H fp H2.objs.size
   have d4:=Gi _ s3 σ3 H3 _ I3 q3
   rw [eP,ew,eA,ex,eE] at d4
   refine wpAny_mono d4 (fun b s4 hr4=>?_) fun _ _ z=>z
   obtain ⟨H4,I4,q4⟩:=hr4
   have again:∀ {s5:Shared} {H5:Hp} {σ5:St},Inv Xb ([(s.heap.objs.size,lstObj its k)] ++ pinsAt fp s2.heap) σ5 H5 s5→s5.heap.get? s.heap.objs.size=some (lstObj its k)∧H5 s.heap.objs.size=none∧tn (i + 1) s5.heap∧∀ b∈fp,H5 b=none:=fun {s5 H5 σ5} I5=>by
    have pD:=I5.pin (s.heap.objs.size,lstObj its k) (List.mem_append_right _ (List.mem_append_left _ (List.mem_singleton.mpr rfl)))
    refine ⟨pD.1,pD.2.1,T.keep _ _ _ st2 fun b hb o e=>(I5.pin (b,o) (List.mem_append_right _ (List.mem_append_right _ (mem_pinsAt hb e)))).1,fun b hb=>?_⟩
    obtain ⟨o,e,_⟩:=T.obj _ _ st2 b hb
    exact (I5.pin (b,o) (List.mem_append_right _ (List.mem_append_right _ (mem_pinsAt hb e)))).2.1
   have bare:∀ {s5:Shared} {H5:Hp} {σ5:St} {pl:List (Addr × Obj)},Inv Xb pl σ5 H5 s5→Inv Xb [] σ5 H5 s5:=fun I5=>I5.pins_of fun p hp=>nomatch hp
   cases b with
   | false=>
    obtain ⟨m',hm,w5⟩:=hN _ _ _ q4
    obtain ⟨a1,a2,a3,a4⟩:=again I4
    exact ⟨m',hm,i + 1,acc,its,k,σ3,H4,bare I4,a3,a4,a2,a1,rv',w5⟩
   | true=>
    have Ge:=hXb ▸ he s H fp H2.objs.size
    have d5:=Ge _ s4 σ3 H4 _ I4 q4
    rw [eP,ew,eA,ex,eE] at d5
    refine wpAny_mono d5 (fun y s5 hr5=>?_) fun _ _ z=>z
    obtain ⟨v,H5,I5,r5,q5⟩:=hr5
    obtain ⟨m',hm,w5⟩:=hN _ _ _ q5
    obtain ⟨a1,a2,a3,a4⟩:=again I5
    have hl:=rv'.length
    refine call_meets F.slot_list_append ⟨_,a1,rfl⟩ F.entry_list_append (F.args_list_append_2 _ _) (PySem.list_append s.heap.objs.size its.toArray k y (by rw [List.size_toArray];omega)) ⟨a1,?_⟩
    have qu:=PySem.IsL.update a1 (fun x_1=>x_1.push y)
    have qe:(its.toArray.push y)=(its ++ [y]).toArray:=by simp
    rw [qe] at qu
    have I6:Inv Xb [] σ3 H5 { s5 with heap:=s5.heap.update s.heap.objs.size (Obj.mapSeq fun x_1=>x_1.push y),toks:=s5.toks }:=
     (bare I5).turned (fun b o hb e=>(Heap.get?_update_other s5.heap _ (Ne.symm hb)).trans e) a2 (by rw [eL];exact hDC) (.inr (by rw [es];exact Nat.le_refl _)) hDcell (by rw [ep];intro p hp;exact nomatch hp)
    refine ⟨m',hm,i + 1,acc ++ [v],its ++ [y],_,σ3,H5,I6,T.keep _ _ _ a3 (fun b hb o e=>(Heap.get?_update_other s5.heap _ (hDf b hb).symm).trans e),a4,a2,qu,rv'.append (.cons r5 .nil),w5⟩
 refine codeAny_compStart_list (loop _ rfl) ?_
 exact T.self _ 0 _ _ _ st₁ (loop _ rfl)
theorem pe_comp {elt tg iter:Expr} {ifs:List Expr} {scope:Scope} {pos:Pos} (own:List Str) (js:List Nat) {wi:TI} {g:TG} {ti:TT} {te:TE} (hc:X.calm=true) (hk:CompOk scope X.env.scope)
  (hcap:(js.all fun j=>scope.names.contains (X.N.getD j Str.empty,NameKind.free))=true) (hw:PI X tg iter wi)
  (hg:∀ s H fp C,PG (X.blk (blkN own js X.N) s H scope fp C) tg g) (hi:∀ s H fp C,PIf (X.blk (blkN own js X.N) s H scope fp C) ifs ti) (he:∀ s H fp C,PE (X.blk (blkN own js X.N) s H scope fp C) elt te)
  (hs:∀ x,foldedSetIterable iter X.env x=pure x:=by intro _;rfl):PE X (.ListComp elt [⟨tg,iter,ifs,0⟩] scope pos) (tComp own.length js wi g ti te):=by
 intro pins s σ H Q I h
 rw [eval_ListComp]
 refine wpAny_comprehension_free (use:=none) rfl hs (closureFor_cap (I.capFree hk)) hk.kind hk.loc (thn (hw pins s σ H _ I h) fun v s1 h1=>thn h1 fun itv s2 h2=>?_)
 obtain ⟨it,fp,tn,J,H2,rfl,I2,T,st2,f2,hW⟩:=h2
 refine comp_core (RR:=fun acc C=>compPost (model X.prog X.w) X.A X.xe none (EP X pins σ Q) acc C) (Q:=fun acc H'=>∀ l,H' l=none→Q (.ref l) (upd H' l (.lst acc))) hc hk hcap hg hi he I2 T st2 f2 hW ?_
 intro D C s' H' acc m q hD I' hn hC0 hCL hCs hCc hCp
 refine ⟨m,hn,fun h' sb=>?_⟩
 exact ⟨.ref D,_,I'.turned (t':=s'.toks) (fun b o hb e=>(sb.2 b hb).trans e) hC0 hCL (.inr hCs) hCc hCp,rfl,q D hD⟩
theorem ps_setcomp {i:Nat} {x:Str} {elt tg iter:Expr} {ifs:List Expr} {scope:Scope} {pos spos:Pos} {px:Pos} (own:List Str) (js:List Nat) {wi:TI} {g:TG} {ti:TT} {te:TE} (hN:X.N.Nodup) (hxi:X.N[i]?=some x) (hx:Loc X.env.scope x)
  (hsw:swapsWith (.ListComp elt [⟨tg,iter,ifs,0⟩] scope pos) (some (.Name x px)) spos.line X.env=pure true)
  (hc:X.calm=true) (hk:CompOk scope X.env.scope)
  (hcap:(js.all fun j=>scope.names.contains (X.N.getD j Str.empty,NameKind.free))=true) (hw:PI X tg iter wi)
  (hg:∀ s H fp C,PG (X.blk (blkN own js X.N) s H scope fp C) tg g) (hi:∀ s H fp C,PIf (X.blk (blkN own js X.N) s H scope fp C) ifs ti) (he:∀ s H fp C,PE (X.blk (blkN own js X.N) s H scope fp C) elt te)
  (hs:∀ x,foldedSetIterable iter X.env x=pure x:=by intro _;rfl) (hf:X.fn x=true∨X.env.scope.names.lookup x=some .local:=by first | exact .inl rfl | exact .inr rfl | assumption) :
  PS X (.Assign [.Name x px] (.ListComp elt [⟨tg,iter,ifs,0⟩] scope pos) spos) (tAsg (tComp own.length js wi g ti te) (gName i)):=by
 intro pins s σ H Dn I h
 rw [exec_Assign_Name_used _ _ _ _ hsw]
 refine wpAny_bind (wpAny_standAt (wpAny_bind ?_))
 show wpAny _ _ (do let _ ← comprehension (.ListComp elt [⟨tg,iter,ifs,0⟩] scope pos) scope X.env _ (newList []) false (eval iter X.env) (some (assign (.Name x px) X.env))) _ _ s
 refine wpAny_bind (wpAny_mono (wpAny_comprehension_free (use:=some (assign (.Name x px) X.env)) (Q:=fun _ s'=>SP X pins Dn .next s') (E:=X.xe) rfl hs (closureFor_cap (I.capFree hk)) hk.kind hk.loc ?_) (fun _ s' q=>wpAny_pure (wpAny_pure q)) fun _ _ z=>z)
 refine (thn (hw pins s σ H _ I h) fun v s1 h1=>thn h1 fun itv s2 h2=>?_)
 obtain ⟨it,fp,tn,J,H2,rfl,I2,T,st2,f2,hW⟩:=h2
 refine comp_core (RR:=fun acc C=>compPost (model X.prog X.w) X.A X.xe (some (assign (.Name x px) X.env)) (fun _ s'=>SP X pins Dn .next s') acc C) (Q:=fun acc H'=>∀ l,H' l=none→gName i (.ref l) σ (upd H' l (.lst acc)) Dn.nx) hc hk hcap hg hi he I2 T st2 f2 hW ?_
 intro D C s' H' acc m q hD I' hn hC0 hCL hCs hCc hCp
 show wpAny _ _ (assign (.Name x px) X.env (.ref D)) _ _ s'
 refine wpAny_assign_Name (store_ok2 I' hN hxi hx (v:=.ref D) rfl (fun s'' I'' sb=>?_) hf)
 obtain ⟨a,sb,ha⟩:=sb
 have hCa:C≠a:=by
  rcases ha with z | z
  ·rw [z];exact hCL
  ·exact (hCc x a z).symm
 refine ⟨m,hn.sameBut sb hCa,fun h' sb'=>?_⟩
 exact ⟨_,_,I''.turned (t':=s''.toks) (fun b o hb e=>(sb'.2 b hb).trans e) hC0 hCL (.inr hCs) hCc hCp,q D hD⟩
end
section
variable {K:PySem.W.Frag} {g:TG} {ti:TT} {te:TE} {σ:St} {H:Hp} {Q:List V→Hp→Prop}
theorem comp_by {J:It} {n:Nat} (Pv:Nat→List V→St→Hp→Prop) (h0:Pv 0 [] σ H) (hz:∀ i acc σ H,Pv i acc σ H→acc.length < sizeLine) (hi:∀ i acc σ H,Pv i acc σ H→i≤n)
  (stop:∀ acc σ H,Pv n acc σ H→J.stop n H) (go:∀ i acc σ H,i < n→Pv i acc σ H→J.go i H)
  (hs:∀ i x acc σ H H2,i < n→Pv i acc σ H→J.yld i H x H2→g x σ H2 fun σ2 H3=>ti σ2 H3 fun b H4=>if b=true then te σ2 H4 fun v H5=>Pv (i + 1) (acc ++ [v]) σ2 H5 else Pv (i + 1) acc σ2 H4)
  (he:∀ acc σ H,Pv n acc σ H→Q acc H) :
  CompW J g ti te σ H Q:=by
 refine ⟨fun i m acc σ H=>Pv i acc σ H∧m=n + 1 - i,⟨n + 1,h0,rfl⟩,?_⟩
 rintro i m acc σ' H' ⟨w,rfl⟩
 refine ⟨hz i acc σ' H' w,?_⟩
 have hle:=hi i acc σ' H' w
 rcases Nat.lt_or_ge i n with hlt | hge
 ·refine .inr ⟨go i acc σ' H' hlt w,fun acc' σ2 H2=>Pv (i + 1) acc' σ2 H2,fun acc' σ2 H2 w2=>⟨n + 1 - (i + 1),?_,w2,rfl⟩,fun x H2 y=>hs i x acc σ' H' H2 hlt w y⟩
  have:=hi (i + 1) acc' σ2 H2 w2
  omega
 ·have e:i=n:=by omega
  subst e
  exact .inl ⟨stop acc σ' H' w,he acc σ' H' w⟩
theorem comp_list {a:Addr} {xs:List V} (Pv:Nat→List V→St→Hp→Prop) (h0:Pv 0 [] σ H) (hz:∀ i acc σ H,Pv i acc σ H→acc.length < sizeLine) (hi:∀ i acc σ H,Pv i acc σ H→i≤xs.length)
  (hl:∀ i acc σ H,Pv i acc σ H→SqL K H a xs)
  (hs:∀ i x acc σ H,xs[i]?=some x→Pv i acc σ H→g x σ H fun σ2 H3=>ti σ2 H3 fun b H4=>if b=true then te σ2 H4 fun v H5=>Pv (i + 1) (acc ++ [v]) σ2 H5 else Pv (i + 1) acc σ2 H4)
  (he:∀ acc σ H,Pv xs.length acc σ H→Q acc H):CompW (Itl K a) g ti te σ H Q:=by
 exact comp_by (J:=Itl K a) (g:=g) (ti:=ti) (te:=te) (Q:=Q) (n:=xs.length) Pv h0 hz hi (fun acc σ H w=>⟨xs,hl _ _ _ _ w,Nat.le_refl _⟩)
  (fun i acc σ H hlt w=>⟨xs,xs[i],hl _ _ _ _ w,List.getElem?_eq_getElem hlt⟩) (fun i x acc σ H H2 hlt w y=>by obtain ⟨rfl,hx⟩:=y;exact hs i x acc σ H2 (hx xs (hl _ _ _ _ w)) w) he
theorem comp_range {lo:Int} {n:Nat} (Pv:Nat→List V→St→Hp→Prop) (h0:Pv 0 [] σ H) (hz:∀ i acc σ H,Pv i acc σ H→acc.length < sizeLine) (hi:∀ i acc σ H,Pv i acc σ H→i≤n)
  (hs:∀ i acc σ H,i < n→Pv i acc σ H→g (.int (lo + i)) σ H fun σ2 H3=>ti σ2 H3 fun b H4=>if b=true then te σ2 H4 fun v H5=>Pv (i + 1) (acc ++ [v]) σ2 H5 else Pv (i + 1) acc σ2 H4)
  (he:∀ acc σ H,Pv n acc σ H→Q acc H):CompW (Itr lo n) g ti te σ H Q:=by
 exact comp_by (J:=Itr lo n) (g:=g) (ti:=ti) (te:=te) (Q:=Q) (n:=n) Pv h0 hz hi (fun acc σ H w=>Nat.le_refl _) (fun i acc σ H hlt w=>hlt) (fun i x acc σ H H2 hlt w y=>by obtain ⟨rfl,rfl⟩:=y;exact hs i acc σ H2 hlt w) he
end
end L2
set_option Elab.async false
set_option linter.all false
set_option maxRecDepth 100000
namespace L2
open PySem PySem.Spec PyProof.Rows
structure Cal (P:Program) (w:World) (K:PySem.W.Frag) (mg:Str→Option Value) (base:Heap) (CX:CXT) (k:Nat) (x:Str) (ps:List Str) (sp:Sp):Prop where
 ex:∃ (f:Addr) (fd:FuncData),FnOk P w K mg base CX k f fd ps sp∧mg x=some (.ref f)∧PySem.W.keepIn K (.ref f)=true∧Binds K fd ps []
structure NB (mg:Str→Option Value):Prop where
 len:mg "len" = none
 range:mg "range" = none
 list:mg "list" = none
 tuple:mg "tuple" = none
 isinstance:mg "isinstance" = none
 int:mg "int" = none
 bool:mg "bool" = none
 str:mg "str" = none
 reversed:mg "reversed" = none
 all:mg "all" = none
 enumerate:mg "enumerate" = none
 zip:mg "zip" = none
 sorted:mg "sorted" = none
 set:mg "set" = none
 dict:mg "dict" = none
 min:mg "min" = none
 max:mg "max" = none
 sum:mg "sum" = none
 ValueError:mg "ValueError" = none
section
variable {X:Cx} {CX:CXT} {k:Nat} {x:Str} {ps:List Str} {sp:Sp} {E:XK} {p pos:Pos} {e:Expr} {es:List Expr} {t:TA}
theorem pe_cal (C:Cal X.prog X.w X.K X.mg X.base CX k x ps sp) (hr:Room k X.A) (hg:Gl X x) (hx:Passes CX X E) (ha:PA X (e :: es) t) (hdb:(x == ("__debug__":Str))=false:=by decide +kernel)
  (hst:starEach (e :: es) X.env=(false,eval e X.env) :: starEach es X.env:=by rfl) (hpl:(backTo pos (starEach es X.env)).any (·.1)=false:=by rfl):PE X (.Call (.Name x p) (e :: es) [] pos) (tCall sp [] E t):=by
 obtain ⟨f,fd,F,hm,hk,hb⟩:=C.ex
 exact pe_call F hr hg hm hk hb .nil hx ha hdb hst hpl
end
section
variable {X:Cx} {tg:Expr}
def CDivP (_ j:Int):Prop:=0 < j∧j < 18446744073709551616
theorem op_fdivP:OpR X (binaryOp .FloorDiv) (rI CDivP fun i j=>.int (i / j)):=opI fun i j _ _ _ _ _ hc q=>by
 have h1:(0:Int) < j:=hc.1
 have h2:j < 18446744073709551616:=hc.2
 refine floordiv_int (by omega) (by rw [Int.fdiv_eq_ediv_of_nonneg i (by omega)];exact q) (.inl (PyProof.noPylong_of_log2 ?_))
 have h64:j.natAbs.log2 < 64:=(Nat.log2_lt (by omega)).mpr (by omega)
 omega
theorem strsAre_of:∀ {ys:List Str} {us:List Value},Vals (ys.map V.str) us→StrsAre us ys
 | [],_,.nil=>.nil
 | y :: ys,_,.cons r t=>by
  obtain ⟨tk,rfl⟩:=r
  exact .cons y tk (strsAre_of t)
def rJoin (K:PySem.W.Frag):V→List V→Hp→VK→Prop:=fun x xs H Q=>∃ z p ys,x=.str z∧xs=[.ref p]∧(SqL K H p (ys.map V.str)∨SqT K H p (ys.map V.str))∧(ys.map (·.length)).sum + ys.length * z.length≤16777216∧Q (.str (Txt.join z ys)) H
theorem mt_join:MtR X "str.join" (rJoin X.K):=by
 intro pins s σ H x xs v us Q I rx rv h
 obtain ⟨z,p,ys,rfl,rfl,hs,hz,q⟩:=h
 obtain ⟨t,rfl⟩:=rx
 obtain ⟨u,rfl,ru⟩:=rv.one
 cases ru
 rcases hs with hs | hs
 ·obtain ⟨its,r,pl,_⟩:=I.list hs
  exact join_list pl.isList (by simpa using strsAre_of r) hz fun t' k=>⟨.str _,H,I.tok k,⟨t',rfl⟩,q⟩
 ·obtain ⟨its,r,pl,_⟩:=I.tuple hs
  exact join_tuple pl (by simpa using strsAre_of r) hz fun t' k=>⟨.str _,H,I.tok k,⟨t',rfl⟩,q⟩
def Its (x:Str):It:=⟨fun i _=>i < x.cps.size,fun i H v H'=>H'=H∧∃ c,x.cps[i]?=some c∧v=.str ⟨#[c]⟩,fun i _=>x.cps.size≤i⟩
theorem turn_str {P:Program} {w:World} {K:PySem.W.Frag} {tg:Expr} (x:Str) (t:Tok) (it:Addr):Turn P w K tg (Its x) [it] it (fun i h=>h.IsStrIter it (strIterType x) x t i) where
 mem:=by simp
 obj:=fun i h st b hb=>by
  have e:b=it:=by simpa using hb
  subst e
  obtain ⟨o,e,c,d⟩:=st
  exact ⟨o,e,fun v z=>by rw [d] at z;cases z⟩
 keep:=fun i h h' st k=>by
  obtain ⟨o,e,c,d⟩:=st
  exact ⟨o,k it (by simp) o e,c,d⟩
 item:=by
  intro X hP hw hK hc i pins s σ H E I hf st hg
  subst hP hw hK
  obtain ⟨f0,f1,f2,f3,f4,f5⟩:=hf it (by simp)
  have hi:i < x.cps.size:=hg
  have hx:x.cps[i]?=some x.cps[i]:=Array.getElem?_eq_getElem hi
  have fin:∀ h',h'.IsStrIter it (strIterType x) x t (i + 1)→Heap.SameBut it s.heap h'→∃ u,(some (Value.str ⟨#[x.cps[i]]⟩ s.toks))=some u ∧
    wpAny (model X.prog X.w) X.A (letOwnedTupleGo tg (.ref it) u) (fun _ s2=>∃ v H',Inv X pins σ H' s2∧RelV v u∧(Its x).yld i H v H'∧s2.heap.IsStrIter it (strIterType x) x t (i + 1)∧∀ b∈[it],H' b=none) E { s with heap:=h',toks:=s.toks + 1 }:=fun h' st' sb=>by
   have I1:Inv X pins σ H { s with heap:=h',toks:=s.toks + 1 }:=I.turned (fun b o hb e=>(sb.2 b hb).trans e) f0 f1 f3 f4 f5
   obtain ⟨o,e,c,d⟩:=id st'
   refine ⟨_,rfl,go_of (s:={ s with heap:=h',toks:=s.toks + 1 }) e c d ?_ ⟨.str ⟨#[x.cps[i]]⟩,H,I1,⟨_,rfl⟩,⟨rfl,_,hx,rfl⟩,st',fun b hb=>(hf b hb).1⟩⟩
   unfold strIterType
   split <;> decide
  cases ha:x.cps.all (· < 128) with
  | true=>
   have ety:strIterType x = "str_ascii_iterator":=by unfold strIterType;rw [ha];rfl
   rw [ety] at st fin ⊢
   exact wpAny_pyNext_ascii_item st hx fin
  | false=>
   have ety:strIterType x = "str_iterator":=by unfold strIterType;rw [ha];rfl
   rw [ety] at st fin ⊢
   exact wpAny_pyNext_wide_item st hx fin
 done:=by
  intro X hP hw hK hc i pins s σ H E I hf st hg
  subst hP hw hK
  obtain ⟨f0,f1,f2,f3,f4,f5⟩:=hf it (by simp)
  have hi:x.cps.size≤i:=hg
  have hx:x.cps[i]?=none:=Array.getElem?_eq_none hi
  cases ha:x.cps.all (· < 128) with
  | true=>
   have ety:strIterType x = "str_ascii_iterator":=by unfold strIterType;rw [ha];rfl
   rw [ety] at st
   exact wpAny_pyNext_ascii_end (I.ok.hd hc) st hx fun h' eb=>⟨rfl,I.turned (t':=s.toks) (fun b o hb e=>eb b o hb e) f0 f1 f3 f4 f5⟩
  | false=>
   have ety:strIterType x = "str_iterator":=by unfold strIterType;rw [ha];rfl
   rw [ety] at st
   exact wpAny_pyNext_wide_end (I.ok.hd hc) st hx fun h' eb=>⟨rfl,I.turned (t':=s.toks) (fun b o hb e=>eb b o hb e) f0 f1 f3 f4 f5⟩
 self:=fun A i s Q E st h=>by
  cases ha:x.cps.all (· < 128) with
  | true=>
   have ety:strIterType x = "str_ascii_iterator":=by unfold strIterType;rw [ha];rfl
   rw [ety] at st
   exact wpAny_pyIter_striter_ascii st h
  | false=>
   have ety:strIterType x = "str_iterator":=by unfold strIterType;rw [ha];rfl
   rw [ety] at st
   exact wpAny_pyIter_striter_wide st h
def iStr (tl:TE):TI:=fun σ H R=>tl σ H fun v H1=>∃ x,v=.str x∧R (Its x) H1
theorem pi_str {l:Expr} {tl:TE} (hl:PE X l tl):PI X tg l (iStr tl):=by
 intro pins s σ H R I h
 refine thn (hl pins s σ H _ I h) fun v s1 ⟨x,H1,I1,r1,q1⟩=>?_
 obtain ⟨x,rfl,q⟩:=q1
 obtain ⟨t,rfl⟩:=r1
 refine wpAny_pyIter_strU ?_
 refine ⟨s1.heap.objs.size,[s1.heap.objs.size],_,_,H1,rfl,I1.kept (t':=s1.toks) fun b o e=>Heap.get?_push_of_some _ e,turn_str x t _,⟨_,Heap.get?_push_size _ rfl,rfl,rfl⟩,fun b hb=>?_,q⟩
 have e:b=s1.heap.objs.size:=by simpa using hb
 subst e
 exact I1.fpOk (Nat.le_refl _) (I1.hok.fresh (Nat.le_refl _))
def Itv (K:PySem.W.Frag) (a:Addr) (n:Nat):It:=
 ⟨fun i H=>∃ xs x,SqL K H a xs∧i < n∧xs[n - 1 - i]?=some x,fun i H x H'=>H'=H∧∀ xs,SqL K H a xs→xs[n - 1 - i]?=some x,fun i _=>i=n⟩
theorem turn_rev {P:Program} {w:World} {K:PySem.W.Frag} {tg:Expr} (a it:Addr) (n:Nat):Turn P w K tg (Itv K a n) [it] it (fun i h=>h.IsRevIter it a ((n:Int) - 1 - (i:Int))) where
 mem:=by simp
 obj:=fun i h st b hb=>by
  have e:b=it:=by simpa using hb
  subst e
  obtain ⟨o,e,c,d⟩:=st
  exact ⟨o,e,fun v z=>by rw [d] at z;cases z⟩
 keep:=fun i h h' st k=>st.at fun o e=>k it (by simp) o e
 item:=by
  intro X hP hw hK hc i pins s σ H E I hf st hg
  subst hP hw hK
  obtain ⟨xs,x,hq,hi,hx⟩:=hg
  obtain ⟨its,rv,p,hz⟩:=I.list hq
  obtain ⟨u,hu,ru⟩:=rv.get hx
  obtain ⟨f0,f1,f2,f3,f4,f5⟩:=hf it (by simp)
  have e:(n:Int) - 1 - (i:Int)=((n - 1 - i:Nat):Int):=by omega
  have st1:=st
  rw [e] at st1
  refine wpAny_pyNext_rev_item st1 p.isList (x:=u) (by simpa using hu) fun h' st' sb=>?_
  have e2:((n - 1 - i:Nat):Int) - 1=(n:Int) - 1 - ((i + 1:Nat):Int):=by omega
  rw [e2] at st'
  have I1:Inv X pins σ H { s with heap:=h' }:=I.turned (t':=s.toks) (fun b o hb e=>(sb.2 b hb).trans e) f0 f1 f3 f4 f5
  obtain ⟨o,e,c,d⟩:=id st'
  exact ⟨u,rfl,go_of (s:={ s with heap:=h' }) e c d (by decide) ⟨x,H,I1,ru,⟨rfl,fun ys hy=>by rw [I.list_inj hy hq];exact hx⟩,st',fun b hb=>(hf b hb).1⟩⟩
 done:=by
  intro X hP hw hK hc i pins s σ H E I hf st hg
  subst hP hw hK
  obtain ⟨f0,f1,f2,f3,f4,f5⟩:=hf it (by simp)
  have hi:i=n:=hg
  subst hi
  have e:(i:Int) - 1 - (i:Int) = -1:=by omega
  rw [e] at st
  exact wpAny_pyNext_rev_end (I.ok.hd hc) st fun h' eb=>⟨rfl,I.turned (t':=s.toks) (fun b o hb e=>eb b o hb e) f0 f1 f3 f4 f5⟩
 self:=fun _ _ _ _ _ st h=>wpAny_pyIter_revIter st h
def iRev (K:PySem.W.Frag) (ta:TA):TI:=fun σ H R=>ta σ H fun vs H1=>∃ a xs,vs=[.ref a]∧SqL K H1 a xs∧R (Itv K a xs.length) H1
theorem pi_rev {a:Expr} {ta:TA} {p pos:Pos} (hg:Gl X "reversed") (hm:X.mg "reversed" = none) (ha:PA X [a] ta) (hs:starEach [a] X.env=[(false,eval a X.env)]:=by rfl):PI X tg (.Call (.Name "reversed" p) [a] [] pos) (iRev X.K ta):=by
 intro pins s σ H R I h
 refine Call_ (ld_blt I hg hm boot_reversed (PyProof.Rows.callWith_type1 (thn (ha pos pins s σ H _ I h) fun us s1 ⟨vs,H1,I1,r1,q1⟩=>?_) hs rfl))
 obtain ⟨l,xs,rfl,hq,q⟩:=q1
 obtain ⟨u,rfl,ru⟩:=r1.one
 cases ru
 obtain ⟨its,rv,pl,hz⟩:=I1.list hq
 have hlen:=rv.length
 refine call_reversed_list pl.isList ?_
 have es:its.toArray.size=xs.length:=by rw [List.size_toArray,hlen]
 rw [es]
 have I2:Inv X pins σ H1 { s1 with heap:=s1.heap.push (revObj l ((xs.length:Int) - 1)) }:=I1.kept (t':=s1.toks) fun b o e=>Heap.get?_push_of_some _ e
 have st:(s1.heap.push (revObj l ((xs.length:Int) - 1))).IsRevIter s1.heap.objs.size l ((xs.length:Int) - 1 - ((0:Nat):Int)):=⟨_,Heap.get?_push_size _ rfl,rfl,by simp [revObj]⟩
 refine wpAny_pyIter_revIter st ?_
 refine ⟨s1.heap.objs.size,[s1.heap.objs.size],_,_,H1,rfl,I2,turn_rev l _ xs.length,st,fun b hb=>?_,q⟩
 have e:b=s1.heap.objs.size:=by simpa using hb
 subst e
 exact I1.fpOk (Nat.le_refl _) (I1.hok.fresh (Nat.le_refl _))
def rSlS:V→Option Int→Option Int→Hp→VK→Prop:=fun x lo hi H Q=>∃ z,x=.str z∧z.length≤sizeLine∧Q (.str (Txt.slice z lo hi)) H
def tJR (sep:Str) (ta:TA):TE:=fun σ H Q=>ta σ H fun vs H1=>∃ x,vs=[.str x]∧x.length≤1000∧sep.length≤1000∧Q (.str (Txt.join sep (x.cps.toList.reverse.map fun c=>(⟨#[c]⟩:Str)))) H1
def clsV:V→Value
 | .ty n=>.type n
 | .ref a=>.ref a
 | _=>.none
def isClsV:V→Bool
 | .ty _=>true
 | .ref _=>true
 | _=>false
theorem clsV_of {c:V} {u:Value} (r:RelV c u) (h:isClsV c=true):u=clsV c:=by
 cases c with
 | ty n=>exact r
 | ref a=>exact r
 | _=>cases h
def rIsi (K:PySem.W.Frag):List V→Hp→VK→Prop:=fun xs H Q=>∃ x c t b,xs=[x,c]∧isClsV c=true∧TyOf K H x t∧PySem.W.kitOne K t (clsV c)=some b∧Q (.bl b) H
theorem call_isinstance:CallR X (.builtin "isinstance") (rIsi X.K):=by
 intro pins s σ H xs us Q I r h
 obtain ⟨x,c,t,b,rfl,hc,ty,e,q⟩:=h
 obtain ⟨u,v,rfl,ru,rv⟩:=r.two
 rw [clsV_of rv hc]
 exact isinst_ok I ru ty e fun tk=>⟨.bl b,H,I.tok tk,rfl,q⟩
theorem kit_same (K:PySem.W.Frag) (n:String):PySem.W.kitOne K (.type n) (.type n)=some true:=by
 unfold PySem.W.kitOne
 rw [if_pos (beq_self_eq_true _)]
inductive Dt where
 | non | bl (b:Bool) | int (i:Int) | str (x:Str) | lst (ds:List Dt) | tup (ds:List Dt)
mutual
def RdD (K:PySem.W.Frag) (H:Hp):Dt→V→Prop
 | .non,v=>v=.non
 | .bl b,v=>v=.bl b
 | .int i,v=>v=.int i
 | .str x,v=>v=.str x
 | .lst ds,v=>∃ a xs,v=.ref a∧SqL K H a xs∧RdDs K H ds xs
 | .tup ds,v=>∃ a xs,v=.ref a∧SqT K H a xs∧RdDs K H ds xs
def RdDs (K:PySem.W.Frag) (H:Hp):List Dt→List V→Prop
 | [],xs=>xs=[]
 | d :: ds,xs=>∃ x r,xs=x :: r∧RdD K H d x∧RdDs K H ds r
end
mutual
def Dt.dep:Dt→Nat
 | .lst ds=>Dt.deps ds + 1
 | .tup ds=>Dt.deps ds + 1
 | _=>0
def Dt.deps:List Dt→Nat
 | []=>0
 | d :: ds=>max (Dt.dep d) (Dt.deps ds)
end
theorem RdDs.length {K:PySem.W.Frag} {H:Hp}:∀ {ds:List Dt} {xs:List V},RdDs K H ds xs→xs.length=ds.length
 | [],_,h=>by unfold RdDs at h;rw [h];rfl
 | d :: ds,xs,h=>by
  unfold RdDs at h
  obtain ⟨x,r,rfl,_,h2⟩:=h
  simp [RdDs.length h2]
theorem RdDs.get {K:PySem.W.Frag} {H:Hp}:∀ {ds:List Dt} {xs:List V} {j:Nat} {x:V},RdDs K H ds xs→xs[j]?=some x→∃ d,ds[j]?=some d∧RdD K H d x
 | [],_,_,_,h,e=>by unfold RdDs at h;rw [h] at e;simp at e
 | d :: ds,xs,j,x,h,e=>by
  unfold RdDs at h
  obtain ⟨y,r,rfl,h1,h2⟩:=h
  cases j with
  | zero=>simp at e;subst e;exact ⟨d,rfl,h1⟩
  | succ j=>
   obtain ⟨d',e1,e2⟩:=RdDs.get (j:=j) h2 (by simpa using e)
   exact ⟨d',by simpa using e1,e2⟩
theorem deps_get:∀ {ds:List Dt} {j:Nat} {d:Dt},ds[j]?=some d→d.dep≤Dt.deps ds
 | [],_,_,e=>by simp at e
 | d' :: ds,0,d,e=>by simp at e;subst e;unfold Dt.deps;omega
 | d' :: ds,j + 1,d,e=>by
  have:=deps_get (ds:=ds) (j:=j) (by simpa using e)
  unfold Dt.deps;omega
theorem all_true (n:Nat):(List.range n).all (fun _=>true)=true:=by simp
theorem eqSame {pins:List (Addr × Obj)} {σ:St} {H:Hp} {s:Shared} (I:Inv X pins σ H s):∀ (n:Nat) (d:Dt) (A:Around) {v u:V} {vv uu:Value},d.dep≤n→A.units + n < cLine→RdD X.K H d v→RdD X.K H d u→RelV v vv→RelV u uu→SeqAt.EqAt A s vv uu true:=by
 intro n
 induction n with
 | zero=>
  intro d A v u vv uu hd hA h1 h2 r1 r2
  cases d with
  | non=>unfold RdD at h1 h2;subst h1 h2;have:=eqAt_V (A:=A) (s:=s) r1 r2 rfl rfl;exact this
  | bl b=>unfold RdD at h1 h2;subst h1 h2;have:=eqAt_V (A:=A) (s:=s) r1 r2 rfl rfl;simpa [eqV] using this
  | int i=>unfold RdD at h1 h2;subst h1 h2;have:=eqAt_V (A:=A) (s:=s) r1 r2 rfl rfl;simpa [eqV] using this
  | str x=>unfold RdD at h1 h2;subst h1 h2;have:=eqAt_V (A:=A) (s:=s) r1 r2 rfl rfl;simpa [eqV] using this
  | lst ds=>unfold Dt.dep at hd;omega
  | tup ds=>unfold Dt.dep at hd;omega
 | succ n ih=>
  intro d A v u vv uu hd hA h1 h2 r1 r2
  cases d with
  | non=>unfold RdD at h1 h2;subst h1 h2;have:=eqAt_V (A:=A) (s:=s) r1 r2 rfl rfl;exact this
  | bl b=>unfold RdD at h1 h2;subst h1 h2;have:=eqAt_V (A:=A) (s:=s) r1 r2 rfl rfl;simpa [eqV] using this
  | int i=>unfold RdD at h1 h2;subst h1 h2;have:=eqAt_V (A:=A) (s:=s) r1 r2 rfl rfl;simpa [eqV] using this
  | str x=>unfold RdD at h1 h2;subst h1 h2;have:=eqAt_V (A:=A) (s:=s) r1 r2 rfl rfl;simpa [eqV] using this
  | lst ds=>
   unfold RdD at h1 h2
   obtain ⟨a,xs,rfl,ha,hxs⟩:=h1
   obtain ⟨b,ys,rfl,hb,hys⟩:=h2
   cases r1;cases r2
   by_cases hab:a=b
   ·subst hab;exact SeqAt.EqAt.same _
   ·unfold Dt.dep at hd
    obtain ⟨its,ra,pa,_⟩:=I.list ha
    obtain ⟨its2,rb,pb,_⟩:=I.list hb
    have l1:=ra.length;have l2:=rb.length;have l3:=hxs.length;have l4:=hys.length
    have hsz:its.toArray.size=its2.toArray.size:=by simp;omega
    have q:=SeqAt.RcAt.lists (A:=A) (s:=s) (e:=fun _=>true) pa.isList pb.isList hsz (by omega) fun j g1 g2=>by
     have g1':j < its.length:=by simpa using g1
     have g2':j < its2.length:=by simpa using g2
     have x1:xs[j]?=some xs[j]:=List.getElem?_eq_getElem (by omega)
     have y1:ys[j]?=some ys[j]:=List.getElem?_eq_getElem (by omega)
     obtain ⟨d,e1,rd1⟩:=hxs.get x1
     obtain ⟨d',e2,rd2⟩:=hys.get y1
     rw [e1] at e2;cases e2
     obtain ⟨w1,f1,rr1⟩:=ra.get x1
     obtain ⟨w2,f2,rr2⟩:=rb.get y1
     rw [List.getElem?_eq_getElem g1'] at f1
     rw [List.getElem?_eq_getElem g2'] at f2
     cases f1;cases f2
     have hdep:=deps_get e1
     simp only [List.getElem_toArray]
     exact ih d A.in1 (by omega) (by show A.units + 1 + n < cLine;omega) rd1 rd2 rr1 rr2
    rw [all_true] at q
    exact SeqAt.EqAt.of_refs hab q
  | tup ds=>
   unfold RdD at h1 h2
   obtain ⟨a,xs,rfl,ha,hxs⟩:=h1
   obtain ⟨b,ys,rfl,hb,hys⟩:=h2
   cases r1;cases r2
   by_cases hab:a=b
   ·subst hab;exact SeqAt.EqAt.same _
   ·unfold Dt.dep at hd
    obtain ⟨its,ra,pa,_⟩:=I.tuple ha
    obtain ⟨its2,rb,pb,_⟩:=I.tuple hb
    have l1:=ra.length;have l2:=rb.length;have l3:=hxs.length;have l4:=hys.length
    have q:=SeqAt.RcAt.tuples (A:=A) (s:=s) (e:=fun _=>true) (show s.heap.IsTuple a its.toArray from pa) (show s.heap.IsTuple b its2.toArray from pb) (by omega) fun j g1 g2=>by
     have g1':j < its.length:=by simpa using g1
     have g2':j < its2.length:=by simpa using g2
     have x1:xs[j]?=some xs[j]:=List.getElem?_eq_getElem (by omega)
     have y1:ys[j]?=some ys[j]:=List.getElem?_eq_getElem (by omega)
     obtain ⟨d,e1,rd1⟩:=hxs.get x1
     obtain ⟨d',e2,rd2⟩:=hys.get y1
     rw [e1] at e2;cases e2
     obtain ⟨w1,f1,rr1⟩:=ra.get x1
     obtain ⟨w2,f2,rr2⟩:=rb.get y1
     rw [List.getElem?_eq_getElem g1'] at f1
     rw [List.getElem?_eq_getElem g2'] at f2
     cases f1;cases f2
     have hdep:=deps_get e1
     simp only [List.getElem_toArray]
     exact ih d A.in1 (by omega) (by show A.units + 1 + n < cLine;omega) rd1 rd2 rr1 rr2
    have e0:((List.range (min its.toArray.size its2.toArray.size)).all (fun _=>true) && its.toArray.size == its2.toArray.size)=true:=by
     rw [all_true,Bool.true_and];simp;omega
    rw [e0] at q
    exact SeqAt.EqAt.of_refs hab q
def rEqD (K:PySem.W.Frag) (neg:Bool):R2:=fun x y H Q=>
 (∃ ds,Dt.deps ds≤40∧((RdD K H (.lst ds) x∧RdD K H (.lst ds) y)∨(RdD K H (.tup ds) x∧RdD K H (.tup ds) y))∧Q (.bl (!neg)) H) ∨
 (∃ a b xs ys,x=.ref a∧y=.ref b∧SqL K H a xs∧SqL K H b ys∧xs.length≠ys.length∧Q (.bl neg) H)
theorem op_eqD (hu:X.A.units + 64 < cLine):OpR X (compareOp .Eq) (rEqD X.K false):=by
 intro pins s σ H x y v u Q I rx ry h
 rcases h with ⟨ds,hd,h,q⟩ | ⟨a,b,xs,ys,rfl,rfl,ha,hb,hne,q⟩
 ·have fin:EP X pins σ Q (.bool true) s:=⟨.bl true,H,I,rfl,q⟩
  have item:∀ {xs ys:List V} {its its2:List Value},RdDs X.K H ds xs→RdDs X.K H ds ys→Vals xs its→Vals ys its2→∀ j (h1:j < its.toArray.size) (h2:j < its2.toArray.size),SeqAt.EqAt X.A.in1 s its.toArray[j] its2.toArray[j] true:=fun {xs ys its its2} hxs hys ra rb j g1 g2=>by
   have l1:=ra.length;have l2:=rb.length;have l3:=hxs.length;have l4:=hys.length
   have g1':j < its.length:=by simpa using g1
   have g2':j < its2.length:=by simpa using g2
   have x1:xs[j]?=some xs[j]:=List.getElem?_eq_getElem (by omega)
   have y1:ys[j]?=some ys[j]:=List.getElem?_eq_getElem (by omega)
   obtain ⟨d,e1,rd1⟩:=hxs.get x1
   obtain ⟨d',e2,rd2⟩:=hys.get y1
   rw [e1] at e2;cases e2
   obtain ⟨w1,f1,rr1⟩:=ra.get x1
   obtain ⟨w2,f2,rr2⟩:=rb.get y1
   rw [List.getElem?_eq_getElem g1'] at f1
   rw [List.getElem?_eq_getElem g2'] at f2
   cases f1;cases f2
   have hdep:=deps_get e1
   simp only [List.getElem_toArray]
   exact eqSame I 40 d X.A.in1 (by omega) (by show X.A.units + 1 + 40 < cLine;omega) rd1 rd2 rr1 rr2
  rcases h with ⟨h1,h2⟩ | ⟨h1,h2⟩
  ·unfold RdD at h1 h2
   obtain ⟨a,xs,rfl,ha,hxs⟩:=h1
   obtain ⟨b,ys,rfl,hb,hys⟩:=h2
   cases rx;cases ry
   obtain ⟨its,ra,pa,_⟩:=I.list ha
   obtain ⟨its2,rb,pb,_⟩:=I.list hb
   have l1:=ra.length;have l2:=rb.length;have l3:=hxs.length;have l4:=hys.length
   have q:=SeqAt.RcAt.lists (A:=X.A) (s:=s) (e:=fun _=>true) pa.isList pb.isList (by simp;omega) (by omega) (item hxs hys ra rb)
   rw [all_true] at q
   exact q _ _ _ _ fin
  ·unfold RdD at h1 h2
   obtain ⟨a,xs,rfl,ha,hxs⟩:=h1
   obtain ⟨b,ys,rfl,hb,hys⟩:=h2
   cases rx;cases ry
   obtain ⟨its,ra,pa,_⟩:=I.tuple ha
   obtain ⟨its2,rb,pb,_⟩:=I.tuple hb
   have l1:=ra.length;have l2:=rb.length;have l3:=hxs.length;have l4:=hys.length
   have q:=SeqAt.RcAt.tuples (A:=X.A) (s:=s) (e:=fun _=>true) (show s.heap.IsTuple a its.toArray from pa) (show s.heap.IsTuple b its2.toArray from pb) (by omega) (item hxs hys ra rb)
   have e0:((List.range (min its.toArray.size its2.toArray.size)).all (fun _=>true) && its.toArray.size == its2.toArray.size)=true:=by
    rw [all_true,Bool.true_and];simp;omega
   rw [e0] at q
   exact q _ _ _ _ fin
 ·cases rx;cases ry
  obtain ⟨its,ra,pa,_⟩:=I.list ha
  obtain ⟨its2,rb,pb,_⟩:=I.list hb
  have l1:=ra.length;have l2:=rb.length
  exact SeqAt.RcAt.lists_lengths pa.isList pb.isList (by simp;omega) (by omega) _ _ _ _ ⟨.bl false,H,I,rfl,q⟩
theorem op_neD (hu:X.A.units + 64 < cLine):OpR X (compareOp .NotEq) (rEqD X.K true):=by
 intro pins s σ H x y v u Q I rx ry h
 rcases h with ⟨ds,hd,h,q⟩ | ⟨a,b,xs,ys,rfl,rfl,ha,hb,hne,q⟩
 ·have fin:EP X pins σ Q (.bool false) s:=⟨.bl false,H,I,rfl,q⟩
  have item:∀ {xs ys:List V} {its its2:List Value},RdDs X.K H ds xs→RdDs X.K H ds ys→Vals xs its→Vals ys its2→∀ j (h1:j < its.toArray.size) (h2:j < its2.toArray.size),SeqAt.EqAt X.A.in1 s its.toArray[j] its2.toArray[j] true:=fun {xs ys its its2} hxs hys ra rb j g1 g2=>by
   have l1:=ra.length;have l2:=rb.length;have l3:=hxs.length;have l4:=hys.length
   have g1':j < its.length:=by simpa using g1
   have g2':j < its2.length:=by simpa using g2
   have x1:xs[j]?=some xs[j]:=List.getElem?_eq_getElem (by omega)
   have y1:ys[j]?=some ys[j]:=List.getElem?_eq_getElem (by omega)
   obtain ⟨d,e1,rd1⟩:=hxs.get x1
   obtain ⟨d',e2,rd2⟩:=hys.get y1
   rw [e1] at e2;cases e2
   obtain ⟨w1,f1,rr1⟩:=ra.get x1
   obtain ⟨w2,f2,rr2⟩:=rb.get y1
   rw [List.getElem?_eq_getElem g1'] at f1
   rw [List.getElem?_eq_getElem g2'] at f2
   cases f1;cases f2
   have hdep:=deps_get e1
   simp only [List.getElem_toArray]
   exact eqSame I 40 d X.A.in1 (by omega) (by show X.A.units + 1 + 40 < cLine;omega) rd1 rd2 rr1 rr2
  rcases h with ⟨h1,h2⟩ | ⟨h1,h2⟩
  ·unfold RdD at h1 h2
   obtain ⟨a,xs,rfl,ha,hxs⟩:=h1
   obtain ⟨b,ys,rfl,hb,hys⟩:=h2
   cases rx;cases ry
   obtain ⟨its,ra,pa,_⟩:=I.list ha
   obtain ⟨its2,rb,pb,_⟩:=I.list hb
   have l1:=ra.length;have l2:=rb.length;have l3:=hxs.length;have l4:=hys.length
   have q:=SeqAt.RcNeAt.lists (A:=X.A) (s:=s) (e:=fun _=>true) pa.isList pb.isList (by simp;omega) (by omega) (item hxs hys ra rb)
   rw [all_true] at q
   exact q _ _ _ _ fin
  ·unfold RdD at h1 h2
   obtain ⟨a,xs,rfl,ha,hxs⟩:=h1
   obtain ⟨b,ys,rfl,hb,hys⟩:=h2
   cases rx;cases ry
   obtain ⟨its,ra,pa,_⟩:=I.tuple ha
   obtain ⟨its2,rb,pb,_⟩:=I.tuple hb
   have l1:=ra.length;have l2:=rb.length;have l3:=hxs.length;have l4:=hys.length
   have q:=SeqAt.RcNeAt.tuples (A:=X.A) (s:=s) (e:=fun _=>true) (show s.heap.IsTuple a its.toArray from pa) (show s.heap.IsTuple b its2.toArray from pb) (by omega) (item hxs hys ra rb)
   have e0:((List.range (min its.toArray.size its2.toArray.size)).all (fun _=>true) && its.toArray.size == its2.toArray.size)=true:=by
    rw [all_true,Bool.true_and];simp;omega
   rw [e0] at q
   exact q _ _ _ _ fin
 ·cases rx;cases ry
  obtain ⟨its,ra,pa,_⟩:=I.list ha
  obtain ⟨its2,rb,pb,_⟩:=I.list hb
  have l1:=ra.length;have l2:=rb.length
  exact SeqAt.RcNeAt.lists_lengths pa.isList pb.isList (by simp;omega) (by omega) _ _ _ _ ⟨.bl true,H,I,rfl,q⟩
end
end L2
namespace Pic
abbrev Row:=List Nat
abbrev Pic:=List Row
def rect (p:Pic) (r c:Nat):Prop:=p.length=r∧∀ x∈p,x.length=c
def mirror (p:Pic):Pic:=p.map List.reverse
def col (p:Pic) (i:Nat):Row:=p.reverse.map fun x=>x.getD i 0
def quarter (p:Pic):Pic:=(List.range (p.headD []).length).map (col p)
def quarters:Nat→Pic→Pic
 | 0,p=>p
 | n + 1,p=>quarters n (quarter p)
def turned (p:Pic) (t:Nat):Pic:=quarters (t % 4) (if 4≤t then mirror p else p)
def after (t u:Nat):Nat:=if u < 4 then t / 4 * 4 + (t + u) % 4 else (1 - t / 4) * 4 + (u + 8 - t) % 4
def back (t:Nat):Nat:=if t < 4 then (4 - t) % 4 else t
end Pic
set_option Elab.async false
set_option linter.all false
set_option maxRecDepth 100000
namespace QL
open PySem L2 Pic
def tx (r:List Nat):Str:=⟨r.toArray⟩
def rowsV (p:Pic):List V:=p.map fun r=>V.str (tx r)
theorem tx_length (r:List Nat):(tx r).length=r.length:=by show r.toArray.size=r.length;simp
theorem tx_list (r:List Nat):(tx r).cps.toList=r:=by show r.toArray.toList=r;simp
theorem rowsV_length (p:Pic):(rowsV p).length=p.length:=by unfold rowsV;simp
theorem rowsV_get {p:Pic} {i:Nat} (h:i < p.length):(rowsV p)[i]?=some (V.str (tx p[i])):=by unfold rowsV;rw [List.getElem?_map,List.getElem?_eq_getElem h];rfl
theorem join_nil:∀ (ys:List (List Nat)),Txt.join (Str.ofString "") (ys.map tx)=tx ys.flatten
 | []=>rfl
 | y :: ys=>by
  have key:∀ (zs:List (List Nat)) (a:List Nat),(zs.map tx).foldl (fun acc (p:Str)=>acc ++ (Str.ofString "").cps ++ p.cps) a.toArray=(a ++ zs.flatten).toArray:=by
   intro zs
   induction zs with
   | nil=>intro a;simp
   | cons z zs ih=>
    intro a
    rw [List.map_cons,List.foldl_cons]
    have e:a.toArray ++ (Str.ofString "").cps ++ (tx z).cps=(a ++ z).toArray:=by
     have e0:(Str.ofString "").cps=#[]:=rfl
     rw [e0]
     show a.toArray ++ #[] ++ z.toArray=_
     simp
    rw [e,ih]
    simp
  show (⟨(ys.map tx).foldl (fun acc (p:Str)=>acc ++ (Str.ofString "").cps ++ p.cps) (tx y).cps⟩:Str)=_
  show (⟨(ys.map tx).foldl (fun acc (p:Str)=>acc ++ (Str.ofString "").cps ++ p.cps) y.toArray⟩:Str)=_
  rw [key]
  rfl
theorem join_ones (r:List Nat):Txt.join (Str.ofString "") (r.map fun c=>(⟨#[c]⟩:Str))=tx r:=by
 have e:(r.map fun c=>(⟨#[c]⟩:Str))=(r.map fun c=>[c]).map tx:=by rw [List.map_map];rfl
 rw [e,join_nil]
 congr 1
 clear e
 induction r with
 | nil=>rfl
 | cons c r ih=>simp [ih]
def Small (p:Pic):Prop:=p.length≤64∧∀ r∈p,r.length≤64
theorem Small.of {p:Pic} {r c:Nat} (h:rect p r c) (hr:r≤64) (hc:c≤64):Small p:=⟨by rw [h.1];exact hr,fun x hx=>by rw [h.2 x hx];exact hc⟩
theorem line_big {n:Nat} (h:n≤1000000):n < sizeLine:=by have:=sizeLine_eq;omega
theorem line_le {n:Nat} (h:n≤1000000):n≤sizeLine:=by have:=sizeLine_eq;omega
theorem same_upd {H:Hp} {l:Addr} {o:HO} (h:H l=none):Same H (upd H l o):=fun b u e=>by rw [upd_ne (ne_of_none e h)];exact e
theorem same_upd2 {H0 H:Hp} {l:Addr} {o:HO} (s:Same H0 H) (h:H0 l=none):Same H0 (upd H l o):=fun b u e=>by rw [upd_ne (ne_of_none e h)];exact s b u e
def GivesPic (H:Hp) (p:Pic) (Q:VK):Prop:=∀ (l:Addr) (H':Hp),H l=none→H' l=some (.lst (rowsV p))→Same H H'→Q (.ref l) H'
theorem atI_in {α:Type} {xs:List α} {i:Int} (h0:0≤i) (h1:i < xs.length):∃ v,v∈xs∧atI xs i=some v:=by
 have hb:i.toNat < xs.length:=by omega
 obtain ⟨j,hj⟩:∃ j:Nat,i=(j:Int):=⟨i.toNat,by omega⟩
 subst hj
 exact ⟨xs[j]'(by omega),List.getElem_mem _,atI_nat (List.getElem?_eq_getElem (by omega))⟩
theorem kit_int_bool (K:PySem.W.Frag):PySem.W.kitOne K (.type "int") (.type "bool")=some false:=by kernel_rfl
end QL
namespace L2
open PySem PySem.Spec PyProof.Rows
section
variable {X:Cx}
theorem call_lenL:CallR X (.builtin "len") (fun xs H Q=>∃ p ys,xs=[.ref p]∧SqL X.K H p ys∧Q (.int ys.length) H):=fun pins s σ H xs us Q I r ⟨p,ys,e,h,q⟩=>call_len_seq pins s σ H xs us Q I r ⟨p,ys,e,.inl h,q⟩
theorem scal_ii (i j:Int):(scal (.int i) (.int j)=true)=True:=by simp [scal]
theorem scal_ss (i j:Str):(scal (.str i) (.str j)=true)=True:=by simp [scal]
theorem scal_bb (i j:Bool):(scal (.bl i) (.bl j)=true)=True:=by simp [scal]
theorem pt_tb {a:Expr} {ta:TE} (ha:PE X a ta) (he:∀ whole,isTrue a X.env whole=(do let v ← whole;standAt a.pos;holding [v] (truthy v))):PT X a (tTest ta):=by
 intro pins s σ H Q I h
 rw [he]
 refine wpAny_bind (thn (ha pins s σ H _ I h) fun v s1 ⟨x,H1,I1,r1,k,e,q⟩=>?_)
 subst e
 cases r1
 exact wpAny_bind (wpAny_standAt (wpAny_holding (wpAny_truthy_bool ⟨H1,I1,q⟩)))
def ForW (J:It) (g:TG) (tb:TS) (D:Ends) (σ:St) (H:Hp):Prop:=∃ W:Nat→Nat→St→Hp→Prop,(∃ m,W 0 m σ H)∧∀ i m σ H,W i m σ H →
 (J.stop i H∧D.nx σ H)∨(J.go i H∧∃ N:St→Hp→Prop,(∀ σ' H',N σ' H'→∃ m',m' < m∧W (i + 1) m' σ' H')∧∀ x H',J.yld i H x H'→g x σ H' fun σ2 H2=>tb { D with nx:=N,ct:=N,bk:=D.nx } σ2 H2)
def tForw (wi:TI) (g:TG) (tb:TS):TS:=fun D σ H=>wi σ H fun J H1=>ForW J g tb D σ H1
theorem ps_forw {tg iter:Expr} {body:List Stmt} {wi:TI} {g:TG} {tb:TS} {pos:Pos} (hp:PassesOwn (model X.prog X.w) X.A X.env X.xe) (hc:X.calm=true) (hi:PI X tg iter wi) (hg:PG X tg g) (hb:PSs X body tb)
  (hs:∀ x,foldedSetIterable iter X.env x=pure x:=by intro _;rfl):PS X (.For tg iter body [] pos) (tForw wi g tb):=ps_for hp hc hi hg hb hs
section
variable {K:PySem.W.Frag} {g:TG} {tb:TS} {D:Ends} {σ:St} {H:Hp}
theorem forw_list {a:Addr} {xs:List V} (Pv:Nat→St→Hp→Prop) (h0:Pv 0 σ H) (hl:∀ i σ H,i≤xs.length→Pv i σ H→SqL K H a xs)
  (hs:∀ i x σ H,xs[i]?=some x→Pv i σ H→g x σ H fun σ2 H2=>tb { D with nx:=Pv (i + 1),ct:=Pv (i + 1),bk:=D.nx } σ2 H2) (hd:∀ σ H,Pv xs.length σ H→D.nx σ H):ForW (Itl K a) g tb D σ H:=for_list Pv h0 hl hs hd
theorem forw_tup {a:Addr} {xs:List V} (Pv:Nat→St→Hp→Prop) (h0:Pv 0 σ H) (hl:∀ i σ H,i≤xs.length→Pv i σ H→SqT K H a xs)
  (hs:∀ i x σ H,xs[i]?=some x→Pv i σ H→g x σ H fun σ2 H2=>tb { D with nx:=Pv (i + 1),ct:=Pv (i + 1),bk:=D.nx } σ2 H2) (hd:∀ σ H,Pv xs.length σ H→D.nx σ H):ForW (Itt K a) g tb D σ H:=for_tup Pv h0 hl hs hd
theorem forw_range {lo:Int} {n:Nat} (Pv:Nat→St→Hp→Prop) (h0:Pv 0 σ H)
  (hs:∀ i σ H,i < n→Pv i σ H→g (.int (lo + i)) σ H fun σ2 H2=>tb { D with nx:=Pv (i + 1),ct:=Pv (i + 1),bk:=D.nx } σ2 H2) (hd:∀ σ H,Pv n σ H→D.nx σ H):ForW (Itr lo n) g tb D σ H:=for_range Pv h0 hs hd
end
end
theorem bt_len:bootBuiltins "len" = some (.builtin "len"):=by decide +kernel
theorem bt_list:bootBuiltins "list" = some (.type "list"):=by decide +kernel
theorem bt_tuple:bootBuiltins "tuple" = some (.type "tuple"):=by decide +kernel
theorem bt_int:bootBuiltins "int" = some (.type "int"):=by decide +kernel
theorem bt_bool:bootBuiltins "bool" = some (.type "bool"):=by decide +kernel
theorem bt_str:bootBuiltins "str" = some (.type "str"):=by decide +kernel
theorem bt_isinstance:bootBuiltins "isinstance" = some (.builtin "isinstance"):=by decide +kernel
theorem bt_all:bootBuiltins "all" = some (.builtin "all"):=by decide +kernel
end L2
set_option Elab.async false
set_option linter.all false
set_option maxRecDepth 100000
namespace PtM
open PySem PySem.Builtin.Str PySem.StrLaws
theorem sub_iff (z s:List Nat) (i:Nat) (h:i + s.length≤z.length):subAt ⟨z.toArray⟩ ⟨s.toArray⟩ i=true↔z=z.take i ++ s ++ z.drop (i + s.length):=by
 have e:subAt ⟨z.toArray⟩ ⟨s.toArray⟩ i=true↔(z.drop i).take s.length=s:=by
  unfold subAt
  show (z.toArray.extract i (i + s.toArray.size) == s.toArray)=true↔_
  rw [beq_iff_eq]
  simp only [List.size_toArray,List.extract_toArray,List.extract_eq_take_drop,List.toArray_inj]
  rw [Nat.add_sub_cancel_left]
  exact ⟨fun q=>by have:=congrArg Array.toList q;simpa using this,fun q=>by rw [q]⟩
 rw [e]
 constructor
 ·intro q
  conv=>lhs;rw [← List.take_append_drop i z,← List.take_append_drop s.length (z.drop i),q,List.drop_drop]
  rw [List.append_assoc]
 ·intro q
  have hl:(z.take i).length=i:=by rw [List.length_take];omega
  have key:∀ A B:List Nat,A.length=i→z=A ++ s ++ B→(z.drop i).take s.length=s:=fun A B hA e=>by
   rw [e,List.append_assoc,← hA,List.drop_left,List.take_left]
  exact key _ _ hl q
end PtM
set_option Elab.async false
set_option linter.all false
set_option maxRecDepth 100000
namespace L2
open PySem PySem.Spec PyProof.Rows
section
variable {X:Cx} {a b c d:Expr} {ta tb tc td:TE} {pos:Pos}
def rAll (K:PySem.W.Frag):List V→Hp→VK→Prop:=fun xs H Q=>∃ (p:Addr) (bs:List Bool),xs=[.ref p]∧SqL K H p (bs.map V.bl)∧Q (.bl (bs.all id)) H
theorem vals_bl:∀ {bs:List Bool} {us:List Value} {i:Nat} {u:Value},Vals (bs.map V.bl) us→us[i]?=some u→∃ k,bs[i]?=some k∧u=.bool k
 | [],_,_,_,.nil,e=>by simp at e
 | k :: bs,_,0,u,.cons r _,e=>by simp at e;subst e;exact ⟨k,rfl,r⟩
 | k :: bs,_,i + 1,u,.cons _ t,e=>by
  obtain ⟨k',h1,h2⟩:=vals_bl (i:=i) t (by simpa using e)
  exact ⟨k',by simpa using h1,h2⟩
theorem all_range (bs:List Bool):((List.range bs.length).all fun i=>(bs[i]?).getD true)=bs.all id:=by
 rw [Bool.eq_iff_iff,List.all_eq_true,List.all_eq_true]
 constructor
 ·intro h x hx
  obtain ⟨i,hi,e⟩:=List.getElem_of_mem hx
  have q:=h i (List.mem_range.mpr hi)
  rw [List.getElem?_eq_getElem hi,Option.getD_some,e] at q
  exact q
 ·intro h i hi
  have hi':=List.mem_range.mp hi
  rw [List.getElem?_eq_getElem hi',Option.getD_some]
  exact h _ (List.getElem_mem hi')
theorem call_all (hc:X.calm=true):CallR X (.builtin "all") (rAll X.K):=by
 intro pins s σ H xs us Q I r h
 obtain ⟨p,bs,rfl,hs,q⟩:=h
 obtain ⟨u,rfl,ru⟩:=r.one
 cases ru
 obtain ⟨its,rv,pl,_⟩:=I.list hs
 have hlt:p < s.heap.objs.size:=by obtain ⟨_,e,_⟩:=pl.isList;exact Heap.lt_size e
 have hlen:its.length=bs.length:=by rw [← rv.length,List.length_map]
 refine call_all_walk (wpAny_pyIter_list pl.isList ?_)
 refine ⟨s.heap.objs.size,[s.heap.objs.size,p],[s.heap.objs.size],its.toArray.size,_,_,fun i=>(bs[i]?).getD true,rfl,Walks.list (A:=X.A.in1) (I.ok.hd hc) _ p (Nat.ne_of_lt hlt) its.toArray,
  ⟨⟨_,Heap.get?_push_size _ rfl,rfl,rfl⟩,pl.isList.push _⟩,fun i v s' Q' E' hP hQ=>?_,fun h' tk hk=>?_⟩
 ·obtain ⟨k,e,rfl⟩:=vals_bl (i:=i) rv (by simpa using hP)
  dsimp only at hQ
  rw [e,Option.getD_some] at hQ
  exact wpAny_truthy_bool hQ
 ·have e:((List.range its.toArray.size).all fun i=>(bs[i]?).getD true)=bs.all id:=by rw [List.size_toArray,hlen];exact all_range bs
  rw [e]
  exact ⟨.bl _,H,I.kept (t':=tk) fun b o eo=>hk b o (fun hm=>by rw [List.mem_singleton.mp hm] at eo;exact Nat.lt_irrefl _ (Heap.lt_size eo)) (Heap.get?_push_of_some _ eo),rfl,q⟩
def tChain3 (r r' r'':R2) (ta tb tc td:TE):TE:=fun σ H Q=>ta σ H fun x H1=>tb σ H1 fun y H2=>r x y H2 fun z H3=>∃ k,z=.bl k ∧
 (if k=true then tc σ H3 fun u H4=>r' y u H4 fun z' H5=>∃ k',z'=.bl k'∧(if k'=true then td σ H5 fun v H6=>r'' u v H6 Q else Q (.bl false) H5) else Q (.bl false) H3)
end
section
variable {K:PySem.W.Frag} {g:TG} {ti:TT} {te:TE} {σ:St} {H:Hp} {Q:List V→Hp→Prop}
end
end L2
set_option Elab.async false
set_option linter.all false
set_option maxRecDepth 100000
namespace QL
open PySem L2 Pic PySem.Builtin PySem.Builtin.Str
end QL
namespace L2
open PySem PySem.Spec PyProof.Rows
section
variable {X:Cx} {K:PySem.W.Frag} {tg:Expr}
theorem call_lenLK (hK:X.K=K):CallR X (.builtin "len") (fun xs H Q=>∃ p ys,xs=[.ref p]∧SqL K H p ys∧Q (.int ys.length) H):=hK ▸ call_lenL
theorem ix_listK (hK:X.K=K):IxR X (rIxL K):=hK ▸ ix_list
end
end L2
set_option Elab.async false
set_option linter.all false
set_option maxRecDepth 100000
namespace PySem
open Sem (wp)
def TrD (cp:Value→Prop) (h base:Heap) (e:Addr) (cls:Value) (od:Option Addr) (fl:Value):Prop:=
 ∃ oe vs T oT ts,h.get? e=some oe∧oe.cls=cls∧oe.dict=od∧oe.data=.fields vs∧vs[1]?=some (.ref T)∧base.get? T=none∧T≠e∧h.get? T=some oT∧oT.data=.fields ts∧ts[3]?=some fl∧∃ cx,vs[2]?=some cx∧cp cx
structure FlyC (cp:Value→Prop) (base:Heap) (l:List Env) (e:Addr) (cls:Value) (od:Option Addr) (fl:Value) (h:Heap):Prop where
 st:base.StaysIn h
 new:base.get? e=none
 ff:h.FunFrames base l
 tr:TrD cp h base e cls od fl
theorem FlyC.there {cp:Value→Prop} {base h:Heap} {l:List Env} {e:Addr} {cls fl:Value} {od:Option Addr} (x:FlyC cp base l e cls od fl h):∃ oe vs,h.get? e=some oe∧oe.cls=cls∧oe.dict=od∧oe.data=.fields vs:=by
 obtain ⟨oe,vs,_,_,_,a,b,c,d,_⟩:=x.tr
 exact ⟨oe,vs,a,b,c,d⟩
theorem dict_mapFields (o:Obj) (f:Array Value→Array Value):(Obj.mapFields f o).dict=o.dict:=by unfold Obj.mapFields;split <;> rfl
section
variable {cp:Value→Prop} {M:Model} {A:Around} {E:Value→Shared→Prop} {s:Shared} {base:Heap} {env:Env} {outer:List Env} {L e:Addr} {Q:Unit→Shared→Prop}
theorem flightD {cls fl:Value} {od:Option Addr} {l:List Env} (x:FlyC cp base l e cls od fl s.heap) (h:∀ h',FlyC cp base l e cls od .none h'→s.heap.UpToSlots h'→Q () { s with heap:=h' }):wpAny M A (setFlight (.ref e) none) Q E s:=by
 obtain ⟨oe,vs,T,oT,ts,he,hc,ho,hd,h1,hnT,hTe,hT,hdT,h3,hcx⟩:=x.tr
 have hsz:3 < ts.size:=(Array.getElem?_eq_some_iff.mp h3).1
 have oth:∀ b,b≠T→(s.heap.update T (Obj.mapFields (·.setIfInBounds 3 Value.none))).get? b=s.heap.get? b:=fun b hb=>Heap.get?_update_other _ _ (Ne.symm hb)
 have nrec:∀ b o,s.heap.get? b=some o→(∀ vs,o.data≠.fields vs)→b≠T:=fun b o hb hnf q=>by rw [q,hT] at hb;injection hb with hb;subst hb;exact hnf ts hdT
 unfold setFlight
 refine wpAny_bind (wpAny_field he hd h1 ?_)
 rw [if_pos (show (Value.ref T != Value.none)=true from by simp)]
 refine wpAny_setField hT hdT hsz (h _ ⟨fun b o hb=>(oth b fun q=>by rw [q,hnT] at hb;cases hb).trans (x.st b o hb),x.new,x.ff.of_keeps fun b o hb hnf=>⟨o,(oth b (nrec b o hb hnf)).trans hb,rfl⟩,?_⟩ fun b o hb hnf=>⟨o.slots,(oth b (nrec b o hb hnf)).trans hb⟩)
 exact ⟨oe,vs,T,_,_,(oth e (Ne.symm hTe)).trans he,hc,ho,hd,h1,hnT,hTe,Heap.get?_update_self _ hT (Obj.isFreed_of_fields (Obj.data_mapFields hdT _)),Obj.data_mapFields hdT _,by simp [hsz],hcx⟩
theorem entryD {oe:Obj} {vs:Array Value} {head:Value} {hadNext:Bool} (hfr:A.frames=some (env :: outer)) (hl:s.heap.FunFrames base (env :: outer)) (hf:env.frame=some L)
  (he:s.heap.get? e=some oe) (hkb:base.StaysIn s.heap) (hen:base.get? e=none) (hd:oe.data=.fields vs) (hsz:1 < vs.size) (hcx:∃ cx,vs[2]?=some cx∧cp cx)
  (h:∀ h',FlyC cp base (env :: outer) e oe.cls oe.dict (rawInt L) h'→s.heap.UpToSlots h'→Q () { s with heap:=h' }) :
  wpAny M A (do let a ← frameOf env;let pl ← entryPlaceOf L hadNext;let b ← EntryCells.newEntry head a .none (rawInt L) .none pl;setField (.ref e) 1 b) Q E s:=by
 have hene:e ∉ (env :: outer).filterMap (·.frame):=fun hm=>by
  obtain ⟨_,o,ho,hnf⟩:=hl.mem hm
  rw [he] at ho;injection ho with ho;subst ho;exact hnf vs hd
 refine wpAny_bind (wpAny_frameOf_fun hfr hl hf fun h₁ hs₁=>?_)
 refine wpAny_bind (wpAny_entryPlaceOf fun pl hpl=>?_)
 unfold EntryCells.newEntry newFields
 refine wpAny_bind (wpAny_newObj_type ?_ (hpl.sizeOk5 _ _ _ _ _))
 have he₁:h₁.get? e=some oe:=(hs₁.2.1 e hene).trans he
 have kb₁:base.StaysIn h₁:=fun b o hb=>(hs₁.2.1 b fun hm=>by rw [(hl.mem hm).1] at hb;cases hb).trans (hkb b o hb)
 generalize hT0:({ cls:=.type "traceback",dict:=none,data:=.fields ([head,.ref L,.none,rawInt L,.none] ++ (if pl.isEmpty then List.replicate 6 Value.none else pl)).toArray }:Obj)=To
 have dTo:To.data=.fields ([head,.ref L,.none,rawInt L,.none] ++ (if pl.isEmpty then List.replicate 6 Value.none else pl)).toArray:=by rw [← hT0]
 have he₂:=Heap.get?_push_of_some (h:=h₁) To he₁
 have hTe:h₁.objs.size≠e:=Nat.ne_of_gt (Heap.lt_size he₁)
 have keep:∀ b o,b≠e→h₁.get? b=some o→((h₁.push To).update e (Obj.mapFields (·.setIfInBounds 1 (Value.ref h₁.objs.size)))).get? b=some o:=fun b o hbe hb=>by
  rw [Heap.get?_update_other _ _ (Ne.symm hbe)]
  exact Heap.get?_push_of_some _ hb
 have nrec:∀ b o,s.heap.get? b=some o→(∀ vs,o.data≠.fields vs)→b≠e:=fun b o hb hnf q=>by
  rw [q,he] at hb
  injection hb with hb
  subst hb
  exact hnf vs hd
 refine wpAny_setField he₂ hd hsz (h _ ?_ ?_)
 ·have hd₃:=Obj.data_mapFields hd (·.setIfInBounds 1 (Value.ref h₁.objs.size))
  refine ⟨fun b o hb=>keep b o (fun q=>by rw [q,hen] at hb;cases hb) (kb₁ b o hb),hen,hl.of_keeps fun b o hb hnf=>?_,?_⟩
  ·obtain ⟨sl,hs⟩:=hs₁.2.2 b o hb
   exact ⟨_,keep b _ (nrec b o hb hnf) hs,rfl⟩
  ·refine ⟨_,_,h₁.objs.size,To,_,Heap.get?_update_self _ he₂ (Obj.isFreed_of_fields hd₃),Obj.cls_mapFields _ _,dict_mapFields _ _,hd₃,by simp [hsz],kb₁.fresh,hTe,?_,dTo,?_,?_⟩
   ·rw [Heap.get?_update_other _ _ (Ne.symm hTe)]
    refine Heap.get?_push_size _ ?_
    rw [← hT0];rfl
   ·first | (simp;done) | (rcases hpl with rfl | ⟨_,_,_,_,_,_,_,rfl⟩ <;> simp)
   ·obtain ⟨cx,h2,hp⟩:=hcx
    exact ⟨cx,by rw [Array.getElem?_setIfInBounds_ne (by decide)];exact h2,hp⟩
 ·intro b o hb hnf
  obtain ⟨sl,hs⟩:=hs₁.2.2 b o hb
  exact ⟨sl,keep b _ (nrec b o hb hnf) hs⟩
theorem noteD {cls:Value} {od:Option Addr} (hfr:A.frames=some (env :: outer)) (hf:env.frame=some L) (x:FlyC cp base (env :: outer) e cls od .none s.heap)
  (h:∀ h',FlyC cp base (env :: outer) e cls od (rawInt L) h'→s.heap.UpToSlots h'→Q () { s with heap:=h' }):wpAny M A (noteFrame (.ref e) env) Q E s:=by
 obtain ⟨oe,vs,T,oT,ts,he,hc,ho,hd,h1,hnT,hTe,hT,hdT,h3,hcx⟩:=x.tr
 subst hc ho
 unfold noteFrame
 simp only [hf]
 refine wpAny_bind (wpAny_field he hd h1 ?_)
 rw [if_pos (show (Value.ref T != Value.none)=true from by simp)]
 refine wpAny_bind (wpAny_field hT hdT h3 ?_)
 rw [if_neg (show ¬ ((Value.none == rawInt L)=true) from by simp [rawInt])]
 refine wpAny_bind (wpAny_setField hT hdT (Array.getElem?_eq_some_iff.mp h3).1 ?_)
 have oth:∀ b,b≠T→(s.heap.update T (Obj.mapFields (·.setIfInBounds 3 Value.none))).get? b=s.heap.get? b:=fun b hb=>Heap.get?_update_other _ _ (Ne.symm hb)
 have nrec:∀ b o,s.heap.get? b=some o→(∀ vs,o.data≠.fields vs)→b≠T:=fun b o hb hnf q=>by rw [q,hT] at hb;injection hb with hb;subst hb;exact hnf ts hdT
 refine entryD hfr (x.ff.of_keeps fun b o hb hnf=>⟨o,(oth b (nrec b o hb hnf)).trans hb,rfl⟩) hf ((oth e (Ne.symm hTe)).trans he) (fun b o hb=>(oth b fun q=>by rw [q,hnT] at hb;cases hb).trans (x.st b o hb)) x.new hd (Array.getElem?_eq_some_iff.mp h1).1 hcx fun h' y up=>h h' y fun b o hb hnf=>up b o ((oth b (nrec b o hb hnf)).trans hb) hnf
theorem noteD0 {oe:Obj} {vs:Array Value} (hfr:A.frames=some (env :: outer)) (hl:s.heap.FunFrames base (env :: outer)) (hf:env.frame=some L) (he:s.heap.get? e=some oe) (hkb:base.StaysIn s.heap) (hen:base.get? e=none) (hd:oe.data=.fields vs) (h1:vs[1]?=some .none) (hcx:∃ cx,vs[2]?=some cx∧cp cx)
  (h:∀ h',FlyC cp base (env :: outer) e oe.cls oe.dict (rawInt L) h'→s.heap.UpToSlots h'→Q () { s with heap:=h' }):wpAny M A (noteFrame (.ref e) env) Q E s:=by
 unfold noteFrame
 simp only [hf]
 refine wpAny_bind (wpAny_field he hd h1 ?_)
 rw [if_neg (by decide)]
 exact entryD hfr hl hf he hkb hen hd (Array.getElem?_eq_some_iff.mp h1).1 hcx h
theorem FlyC.drop {cls fl:Value} {od:Option Addr} {h:Heap} (x:FlyC cp base (env :: outer) e cls od fl h):FlyC cp base outer e cls od fl h:=⟨x.st,x.new,x.ff.2.2,x.tr⟩
theorem leaveD {cls:Value} {od:Option Addr} (hfr:A.frames=some (env :: outer)) (hf:env.frame=some L) (x:FlyC cp base (env :: outer) e cls od .none s.heap)
  (h:∀ h',FlyC cp base outer e cls od .none h'→s.heap.UpToSlots h'→Q () { s with heap:=h' }):wpAny M A (leaving env (.ref e)) Q E s:=by
 unfold leaving
 exact wpAny_bind (noteD hfr hf x fun h1 y1 u1=>flightD y1 fun h2 y2 u2=>h h2 y2.drop (u1.trans u2))
theorem leaveD0 {oe:Obj} {vs:Array Value} (hfr:A.frames=some (env :: outer)) (hl:s.heap.FunFrames base (env :: outer)) (hf:env.frame=some L) (he:s.heap.get? e=some oe) (hkb:base.StaysIn s.heap) (hen:base.get? e=none) (hd:oe.data=.fields vs) (h1:vs[1]?=some .none) (hcx:∃ cx,vs[2]?=some cx∧cp cx)
  (h:∀ h',FlyC cp base outer e oe.cls oe.dict .none h'→s.heap.UpToSlots h'→Q () { s with heap:=h' }):wpAny M A (leaving env (.ref e)) Q E s:=by
 unfold leaving
 exact wpAny_bind (noteD0 hfr hl hf he hkb hen hd h1 hcx fun h1 y1 u1=>flightD y1 fun h2 y2 u2=>h h2 y2.drop (u1.trans u2))
end
end PySem
set_option Elab.async false
set_option linter.all false
set_option maxRecDepth 100000
namespace L2
open PySem PySem.Spec PyProof.Rows
structure Fly0 (P:Program) (w:World) (outer:List Env) (H:Hp) (s:Shared) (B:Heap) (H':Hp) (s':Shared):Prop where
 st:B.StaysIn s'.heap
 ff:s'.heap.FunFrames B outer
 un:Un (frs outer) [] H H' s.heap s'.heap
 hok:HOk P w H' s'.heap
 cov:∀ b o,H' b=some o→∃ ob,B.get? b=some ob
 old:∀ b o,s.heap.get? b=some o→b ∉ frs outer→∃ o',B.get? b=some o'
 os:s'.os=s.os
 bare:AllBare s'.gens
structure FlyX (cp:Value→Prop) (P:Program) (w:World) (outer:List Env) (H:Hp) (s:Shared) (B:Heap) (H':Hp) (s':Shared) (ea:Addr) (cls:Value) (od:Option Addr):Prop extends Fly0 P w outer H s B H' s' where
 fl:FlyC cp B outer ea cls od .none s'.heap
def CXp (cp:Value→Prop) (P:Program) (w:World):CXT:=fun outer H s E e s'=>∃ ea cls od B H',e=.ref ea∧FlyX cp P w outer H s B H' s' ea cls od∧H' ea=none∧E cls od H'
abbrev CX1 (P:Program) (w:World):CXT:=CXp (fun v=>v=.none) P w
theorem passes_E0 {cp:Value→Prop} {P:Program} {w:World} {X:Cx}:Passes (CXp cp P w) X (fun _ _ _=>False):=fun _ _ _ _ _ _ _ h=>by
 obtain ⟨_,_,_,_,_,_,_,_,f⟩:=h
 exact f.elim
theorem hok_stays {P:Program} {w:World} {H:Hp} {B h h':Heap} (ok:HOk P w H h) (cov:∀ b o,H b=some o→∃ ob,B.get? b=some ob) (k:B.StaysIn h) (k':B.StaysIn h'):HOk P w H h':=fun a o e=>
 (ok a o e).stay (fun b u hb q=>by
  have hb':∃ ob,B.get? b=some ob:=by
   rcases hb with rfl | hb
   ·exact cov _ _ e
   ·exact cov _ _ hb
  obtain ⟨ob,hB⟩:=hb'
  have:=k b ob hB
  rw [q] at this
  cases this
  exact k' b _ hB) (fun _ q=>q) fun _ _ q=>q
theorem ObjOk.there {P:Program} {w:World} {H:Hp} {h:Heap} {a:Addr} {o:HO} (x:ObjOk P w H h a o):∃ ob,h.get? a=some ob:=by
 cases o with
 | lst xs=>obtain ⟨_,_,_,_,e⟩:=x;exact ⟨_,e⟩
 | tup xs=>obtain ⟨_,_,_,ob,e,_⟩:=x;exact ⟨_,e⟩
 | dK kvs=>obtain ⟨_,_,_,_,o,_,_,e,_⟩:=x;exact ⟨_,e⟩
 | dT kvs=>obtain ⟨_,_,_,_,o,_,_,e,_⟩:=x;exact ⟨_,e⟩
 | set S n=>obtain ⟨o,_,_,_,e,_⟩:=x;exact ⟨_,e⟩
 | ins C dx fs=>obtain ⟨_,_,_,e,_⟩:=x;exact ⟨_,e⟩
 | own y=>exact x
 | xd fs=>obtain ⟨_,⟨_,_,_,e,_⟩,_⟩:=x;exact ⟨_,e⟩
 | rng lo hi=>obtain ⟨_,_,_,e⟩:=x;exact ⟨_,e⟩
 | frz ob u=>obtain ⟨e,_⟩:=x;exact ⟨_,e⟩
 | tbl ps=>exact ⟨_,show h.get? a=some _ from x⟩
 | met f y=>exact ⟨_,show h.get? a=some _ from x⟩
 | ext φ=>obtain ⟨_,e,_⟩:=x;exact e
section
variable {P:Program} {w:World} {K:PySem.W.Frag} {mg:Str→Option Value} {base:Heap} {N:List Str} {qual:Str} {scope:Scope} {f:Addr} {cd:Value} {A:Around} {outer:List Env} {s:Shared} {H:Hp} {E E1:XK} {CX:CXT}
theorem Fly0.up {cp:Value→Prop} {X:Cx} {pins:List (Addr × Obj)} {σ:St} {H1 H':Hp} {s1 s':Shared} {B h':Heap} {ea:Addr} {cls:Value} {od:Option Addr} (I:Inv X pins σ H1 s1) (hex:X.ex=[]) (hst:X.stack=X.env :: X.outer) (hfr:X.env.frame=some X.env.locals) (hP:X.prog=P) (hw:X.w=w)
  (x:Fly0 P w X.stack H1 s1 B H' s') (fl2:FlyC cp B X.outer ea cls od .none h') (up:s'.heap.UpToSlots h') :
  FlyX cp P w X.outer X.H₀ X.s₀ B H' { s' with heap:=h' } ea cls od:=by
 have nex:∀ b,b ∉ X.ex:=fun b=>by rw [hex];simp
 have nfr:∀ b o,X.s₀.heap.get? b=some o→b ∉ X.fs→b ∉ frs X.stack:=fun b o e hb hm=>by
  rw [hst] at hm
  unfold frs at hm
  rw [List.filterMap_cons,hfr] at hm
  rcases List.mem_cons.mp hm with z | z
  ·exact absurd (Heap.lt_size e) (by rw [z];exact Nat.not_lt.mpr I.ok.above)
  ·exact hb z
 have sub:∀ b,b∈X.fs→b∈frs X.stack:=fun b hb=>by
  rw [hst]
  unfold frs
  rw [List.filterMap_cons,hfr]
  exact List.mem_cons_of_mem _ hb
 have kB:∀ b o,X.s₀.heap.get? b=some o→b ∉ X.fs→∃ o',B.get? b=some o':=fun b o e hb=>by
  obtain ⟨o1,e1⟩:=I.base.there b o e (nex b)
  exact x.old b o1 e1 (nfr b o e hb)
 have fr0:∀ b∈X.fs,X.H₀ b=none:=I.ok.frf
 have sl:∀ b o,X.s₀.heap.get? b=some o→X.H₀ b=none→b∈X.fs→∃ sl,h'.get? b=some { o with slots:=sl }:=fun b o e hn hb=>by
  obtain ⟨sl1,e1⟩:=I.base.slot b o e hn hb (nex b)
  have n1:=I.base.free b o e hn (nex b)
  obtain ⟨sl2,e2⟩:=x.un.slot b _ e1 n1 (sub b hb) (by simp)
  obtain ⟨_,o3,e3,nf⟩:=x.ff.mem (sub b hb)
  rw [e2] at e3
  cases e3
  obtain ⟨sl3,e4⟩:=up b _ e2 nf
  exact ⟨sl3,e4⟩
 refine ⟨⟨fl2.st,fl2.ff,⟨fun b o e hn hb _=>?_,fun b o e hn hb _=>sl b o e hn hb,fun b o e hn _=>?_,fun b o e _=>?_,fun b xs q=>x.un.tups b xs (I.base.tups b xs q),fun b o u q=>x.un.frzs b o u (I.base.frzs b o u q),fun b ps q=>?_⟩,hok_stays x.hok x.cov x.st fl2.st,x.cov,kB,x.os.trans I.os,x.bare⟩,fl2⟩
 ·have e1:=I.base.keep b o e hn hb (nex b)
  have n1:=I.base.free b o e hn (nex b)
  have e2:=x.un.keep b o e1 n1 (nfr b o e hb) (by simp)
  obtain ⟨o',eB⟩:=kB b o e hb
  have:=x.st b o' eB
  rw [e2] at this
  cases this
  exact fl2.st b _ eB
 ·obtain ⟨o1,e1⟩:=I.base.there b o e (nex b)
  exact x.un.free b o1 e1 (I.base.free b o e hn (nex b)) (by simp)
 ·by_cases hb:b∈X.fs
  ·obtain ⟨z,ez⟩:=sl b o e (fr0 b hb) hb
   exact ⟨_,ez⟩
  ·obtain ⟨o',eB⟩:=kB b o e hb
   exact ⟨_,fl2.st b _ eB⟩
 ·obtain ⟨m1,e1⟩:=I.base.tbls b ps q
  obtain ⟨m2,e2⟩:=x.un.tbls b _ e1
  exact ⟨m1 ++ m2,by rw [e2,Array.append_assoc]⟩
theorem passes_up {cp:Value→Prop} (hE:∀ c d H',E1 c d H'→E c d H'):Passes (CXp cp P w) (cxOf (CXp cp P w) P w K mg base N qual scope f cd A outer s H E) E1:=by
 intro pins σ H1 s1 e s' I x
 obtain ⟨ea,cls,od,B,H',rfl,fly,hn,q⟩:=x
 refine leaveD I.ok.frames rfl fly.fl fun h' fl2 up=>?_
 exact ⟨ea,cls,od,B,H',rfl,Fly0.up I rfl rfl rfl rfl rfl fly.toFly0 fl2 up,hn,hE _ _ _ q⟩
def Makes (X:Cx) (E:XK):Prop:=∀ (pins:List (Addr × Obj)) (σ:St) (H:Hp) (s:Shared) (h':Heap) (e:Addr) (cls:Value) (vs:List Value),Inv X pins σ H s→Heap.MadeExcOf s.heap h' e cls vs→E cls none H→X.xe (.ref e) { s with heap:=h' }
theorem makes_up (hE:∀ c d H',E1 c d H'→E c d H'):Makes (cxOf (CX1 P w) P w K mg base N qual scope f cd A outer s H E) E1:=by
 intro pins σ H1 s1 h1 e cls vs I x q
 have hin:∀ env∈(cxOf (CX1 P w) P w K mg base N qual scope f cd A outer s H E).stack,∀ b,env.frame=some b→b∈frs (cxOf (CX1 P w) P w K mg base N qual scope f cd A outer s H E).stack:=fun env he b hb=>List.mem_filterMap.mpr ⟨env,he,hb⟩
 obtain ⟨t0,he0,ht0,htt⟩:=x.there
 have nt:∀ b,s1.heap.get? b=none→H1 b=none:=fun b hb=>by
  cases z:H1 b with
  | none=>rfl
  | some o=>
   obtain ⟨ob,hob⟩:=(I.hok b o z).there
   rw [hb] at hob
   cases hob
 have hff:=PySem.W.funFrames_hide I.stack hin
 have fly0:Fly0 P w (cxOf (CX1 P w) P w K mg base N qual scope f cd A outer s H E).stack H1 s1 (PySem.W.hideAll s1.heap (frs (cxOf (CX1 P w) P w K mg base N qual scope f cd A outer s H E).stack)) H1 { s1 with heap:=h1 }:=
  ⟨fun b o e=>x.keeps b o (PySem.W.of_hideAll _ e),hff.of_keeps fun b o e _=>⟨o,x.keeps b o e,rfl⟩,Un.kept x.keeps,I.hok.kept x.keeps,fun b o z=>by
   obtain ⟨ob,hob⟩:=(I.hok b o z).there
   exact ⟨ob,PySem.W.hideAll_get _ hob fun hm=>by rw [I.stkFree b hm] at z;cases z⟩,fun b o e hm=>⟨o,PySem.W.hideAll_get _ e hm⟩,rfl,I.bare⟩
 have newB:(PySem.W.hideAll s1.heap (frs (cxOf (CX1 P w) P w K mg base N qual scope f cd A outer s H E).stack)).get? e=none:=by
  cases z:(PySem.W.hideAll s1.heap (frs (cxOf (CX1 P w) P w K mg base N qual scope f cd A outer s H E).stack)).get? e with
  | none=>rfl
  | some o=>have:=PySem.W.of_hideAll _ z;rw [x.new] at this;cases this
 refine leaveD0 (cp:=fun v=>v=.none) (s:={ s1 with heap:=h1 }) I.ok.frames fly0.ff rfl he0 fly0.st newB rfl rfl ⟨_,rfl,rfl⟩ fun h' fl2 up=>?_
 exact ⟨e,cls,none,_,H1,rfl,Fly0.up I rfl rfl rfl rfl rfl fly0 fl2 up,nt e x.new,hE _ _ _ q⟩
end
end L2
set_option Elab.async false
set_option linter.all false
set_option maxRecDepth 100000
namespace L2
open PySem PySem.Spec PyProof.Rows
structure XCls (K:PySem.W.Frag) (C:Addr) (bmB:List Value) (newId:String):Prop where
 exc:PySem.W.excIn K C bmB newId=true
theorem XCls.obj {K:PySem.W.Frag} {C:Addr} {bmB:List Value} {newId:String} {h:Heap} (c:XCls K C bmB newId) (X:K.In h):∃ bm N nm q bs hdct sn sub ab col dd k0 k1 k2 k3 k5 mN,
  h.get? C=some (excClassObj nm q C N bs bm hdct sn sub ab col dd k0 k1 k2 k3 k5 newId)∧h.Ns N mN∧mN "__init__" = none∧OwnTail h bmB bm∧∃ dd' cd sl,K.lookup C=some ⟨.type "type",dd',.cls cd,sl⟩∧cd.mro=.ref C :: bm:=by
 have q:=c.exc
 unfold PySem.W.excIn at q
 cases hl:K.lookup C with
 | none=>rw [hl] at q;cases q
 | some ob=>
  rw [hl] at q
  split at q
  ·rename_i dd cd sl e
   cases e
   split at q
   ·rename_i C' bm k0 k1 k2 k3 n k5 hm hs
    simp only [Bool.and_eq_true,beq_iff_eq,Bool.not_eq_true'] at q
    obtain ⟨⟨⟨⟨⟨rfl,rfl⟩,hdel⟩,ht⟩,hok⟩,hni⟩:=q
    have ho:=X _ _ hl
    have hsl:sl=#[k0,k1,k2,k3,some (.builtin n),k5]:=Array.toList_inj.mp hs
    subst hsl
    obtain ⟨nm,bs,mro,ns,qn,hd,sn,sub,ab,col,del⟩:=cd
    dsimp only at hm hdel hok hni ho
    subst hm hdel
    exact ⟨bm,ns,nm,qn,bs,hd,sn,sub,ab,col,dd,k0,k1,k2,k3,k5,_,ho,.of_isNs (PySem.W.isNs_of_in X hok),PySem.W.nsMap_none_of_in X hok hni,PySem.W.tail_of_in X ht,dd,_,_,rfl,rfl⟩
   ·cases q
  ·cases q
section
variable {X:Cx} {x:Str} {np cpos pos:Pos} {e₀:Expr} {rest:List Expr} {t:TA} {C:Addr} {B Bn newId nid initId inN:String} {bm bmN:List Value} {E:XK}
def tRaise (C:Addr) (E:XK) (t:TA):TS:=fun _ σ H=>t σ H fun vs H1=>vs.length≤sizeLine∧E (.ref C) none H1
theorem ps_raise (c:XCls X.K C bm newId) (Fn:ExcBaseFacts Bn newId inN bmN) (hBn:bm.contains (.type Bn)=true) (FB:ExcBaseFacts B nid initId bm) (hc:X.calm=true) (hg:Gl X x) (hm:X.mg x=some (.ref C)) (hx:Makes X E) (ha:PA X (e₀ :: rest) t)
  (hd:(x == ("__debug__":Str))=false:=by decide +kernel)
  (he:starEach (e₀ :: rest) X.env=(false,eval e₀ X.env) :: starEach rest X.env:=by rfl) (hpl:(backTo cpos (starEach rest X.env)).any (·.1)=false:=by rfl) :
  PS X (.Raise (some (.Call (.Name x np) (e₀ :: rest) [] cpos)) none pos) (tRaise C E t):=by
 intro pins s σ H D I h
 obtain ⟨tl,N,nm,q,bs,hdct,sn,sub,ab,col,dd,k0,k1,k2,k3,k5,mN,hC,hN,hni,T,_⟩:=c.obj I.mod.kin
 refine wpAny_Raise_call_subU (C:=C) (nm:=nm) (q:=q) (N:=N) (bs:=bs) (bm:=tl) (hdct:=hdct) (sn:=sn) (sub:=sub) (ab:=ab) (col:=col) (dd:=dd) (k0:=k0) (k1:=k1) (k2:=k2) (k3:=k3) (k5:=k5)
  Fn hBn FB (mN:=mN) (T.hasType FB.hasBase) (I.ok.hd hc) (by rw [he];show (false || (backTo cpos (starEach rest X.env)).any (·.1))=false;rw [hpl];rfl) hni (ld_glob I hg hm ⟨rfl,?_⟩ hd)
 rw [he]
 have ha':=ha cpos pins s σ H _ I h
 rw [he] at ha'
 exact Calls.evalArgs_plain (wpAny_mono ha' (fun us s₂ ⟨vs,H1,I1,r1,z,q1⟩=>⟨rfl,by rw [← r1.length];exact z,I1.bk _ _ hC,hN.keeps I1.bk,T.keeps I1.bk,fun h' e hx'=>hx pins σ H1 s₂ h' e _ _ I1 hx' q1⟩) fun _ _ y=>y)
end
abbrev TX:=St→Hp→VK→XK→Prop
def PX (CX:CXT) (X:Cx) (e:Expr) (t:TX):Prop:=
 ∀ (pins:List (Addr × Obj)) (s:Shared) (σ:St) (H:Hp) (Q:VK) (E:XK) (Ex:Value→Shared→Prop),Inv X pins σ H s→t σ H Q E→(∀ H1 s1 ev s',Inv X pins σ H1 s1→CX X.stack H1 s1 E ev s'→Ex ev s') →
  wpAny (model X.prog X.w) X.A (eval e X.env) (EP X pins σ Q) Ex s
section
variable {X:Cx} {CX:CXT} {k:Nat} {ps:List Str} {sp:Sp} {x:Str} {p pos:Pos} {e:Expr} {es:List Expr} {t:TA}
def tCallX (sp:Sp) (t:TA):TX:=fun σ H Q E=>t σ H fun vs H1=>sp vs H1 Q E
theorem px_cal (c:Cal X.prog X.w X.K X.mg X.base CX k x ps sp) (hr:Room k X.A) (hg:Gl X x) (ha:PA X.nox (e :: es) t) (hdb:(x == ("__debug__":Str))=false:=by decide +kernel)
  (hst:starEach (e :: es) X.env=(false,eval e X.env) :: starEach es X.env:=by rfl) (hpl:(backTo pos (starEach es X.env)).any (·.1)=false:=by rfl):PX CX X (.Call (.Name x p) (e :: es) [] pos) (tCallX sp t):=by
 intro pins s σ H Q E Ex I h hEx
 obtain ⟨f,fd,F,hm,hk,hb⟩:=c.ex
 refine wpAny_Call_Name_kw (ld_glob I hg hm ?_ hdb)
 refine PySem.W.callWith_K (h₀:=X.base) I.ok.mod.kin hk (wpAny_mono (ha pos pins s σ H _ (I.wish _) h) (fun us s1 ⟨vs,H1,I1,r,q⟩=>⟨I1.kIn,?_⟩) fun _ _ f=>f.elim) hst hpl
 have I2:Inv X pins σ H1 s1:=I1.unwish
 have hl:(us ++ []).length=ps.length:=by rw [List.append_nil,← r.length];exact F.len _ _ _ _ q
 have hb1:=hb s1 us I2.kIn hl
 rw [List.append_nil] at hb1
 refine wpAny_call (codeAny_mono (F.run X.A X.stack s1 H1 ⟨us,[]⟩ us vs Q E hr I2.env0 hb1 r q) fun rr s' hq=>?_)
 cases rr with
 | error ev=>exact hEx H1 s1 ev s' I2 hq
 | ok fl=>
  cases fl with
  | ret u=>exact I2.after hq
  | next=>exact False.elim hq
  | brk=>exact False.elim hq
  | cont=>exact False.elim hq
end
theorem Fly0.un2 {P:Program} {w:World} {outer:List Env} {H H':Hp} {s s':Shared} {B h6:Heap} (x:Fly0 P w outer H s B H' s') (k6:B.StaysIn h6) (up:s'.heap.UpToSlots h6) (fr0:∀ b∈frs outer,H b=none):Un (frs outer) [] H H' s.heap h6:=by
 have sl:∀ b o,s.heap.get? b=some o→H b=none→b∈frs outer→∃ sl,h6.get? b=some { o with slots:=sl }:=fun b o e hn hb=>by
  obtain ⟨sl2,e2⟩:=x.un.slot b _ e hn hb (by simp)
  obtain ⟨_,o3,e3,nf⟩:=x.ff.mem hb
  rw [e2] at e3
  cases e3
  obtain ⟨sl3,e4⟩:=up b _ e2 nf
  exact ⟨sl3,e4⟩
 refine ⟨fun b o e hn hb _=>?_,fun b o e hn hb _=>sl b o e hn hb,fun b o e hn _=>x.un.free b o e hn (by simp),fun b o e _=>?_,x.un.tups,x.un.frzs,x.un.tbls⟩
 ·obtain ⟨o',eB⟩:=x.old b o e hb
  have:=x.st b o' eB
  rw [x.un.keep b o e hn hb (by simp)] at this
  cases this
  exact k6 b _ eB
 ·by_cases hb:b∈frs outer
  ·obtain ⟨z,ez⟩:=sl b o e (fr0 b hb) hb
   exact ⟨_,ez⟩
  ·obtain ⟨o',eB⟩:=x.old b o e hb
   exact ⟨_,k6 b _ eB⟩
def ExcAt (ea:Addr) (cls:Value) (od:Option Addr) (h:Heap):Prop:=∃ o vs,h.get? ea=some o∧o.cls=cls∧o.dict=od∧o.data=.fields vs
abbrev xo (ea:Addr) (cls:Value) (od:Option Addr):HO:=.ext (ExcAt ea cls od)
theorem Inv.caught {cp:Value→Prop} {X:Cx} {pins:List (Addr × Obj)} {σ:St} {H H':Hp} {s s':Shared} {B h6:Heap} {ea:Addr} {cls:Value} {od:Option Addr} (I:Inv X pins σ H s) (x:Fly0 X.prog X.w X.stack H s B H' s') (fl:FlyC cp B X.stack ea cls od .none h6) (up:s'.heap.UpToSlots h6) (hn:H' ea=none) :
  Inv X pins σ (upd H' ea (xo ea cls od)) { s' with heap:=h6 }:=by
 obtain ⟨oe,vs,he,hc,hod,hd⟩:=fl.there
 have newB:B.get? ea=none:=fl.new
 have nfr:ea ∉ frs X.stack:=fun hm=>by
  obtain ⟨_,o,ho,nf⟩:=fl.ff.mem hm
  rw [he] at ho
  cases ho
  exact nf _ hd
 have nold:s.heap.get? ea=none:=by
  cases z:s.heap.get? ea with
  | none=>rfl
  | some o=>
   obtain ⟨o',eB⟩:=x.old ea o z nfr
   rw [newB] at eB
   cases eB
 have u:=x.un2 fl.st up I.stkFree
 have ok6:=hok_stays x.hok x.cov x.st fl.st
 have nq:∀ b o,H' b=some o→b≠ea:=fun b o e z=>by rw [z,hn] at e;cases e
 refine I.call' (ch:=[]) x.os ⟨u.keep,u.slot,fun b o e n hx=>?_,u.there,fun b xs q=>?_,fun b o y q=>?_,fun b qs q=>?_⟩ (fun b o e=>?_) x.bare (fun b z=>absurd z (by simp))
 ·have nb:b≠ea:=fun z=>by rw [z,nold] at e;cases e
  rw [upd_ne nb]
  exact u.free b o e n hx
 ·have q':=u.tups b xs q
  rw [upd_ne (nq _ _ q')]
  exact q'
 ·have q':=u.frzs b o y q
  rw [upd_ne (nq _ _ q')]
  exact q'
 ·obtain ⟨more,q'⟩:=u.tbls b qs q
  exact ⟨more,by rw [upd_ne (nq _ _ q')];exact q'⟩
 ·by_cases hb:b=ea
  ·subst hb
   rw [upd_same] at e
   cases e
   exact ⟨⟨oe,vs,he,hc,hod,hd⟩,⟨oe,he⟩,fun h1 h2 ⟨o,ws,e1,e2,e3,e4⟩ k=>⟨o,ws,k o e1,e2,e3,e4⟩⟩
  ·rw [upd_ne hb] at e
   exact (ok6 b o e).stay (fun _ _ _ q=>q) (fun c q=>by rw [upd_ne (nq _ _ q)];exact q) fun c xs q=>by rw [upd_ne (nq _ _ q)];exact q
end L2
set_option Elab.async false
set_option linter.all false
set_option maxRecDepth 100000
namespace PySem
open Sem (wp)
section
variable {M:Model} {A:Around} {E:Value→Shared→Prop}
variable {nm q nm' q':Str} {C N D N':Addr} {bs bm bs' bm':List Value} {hdct hdct':Bool} {sn sn':List Str} {sub sub':List Value} {ab ab':Bool} {col col':Option Bool} {dd dd':Option Addr} {k0 k1 k2 k3 k5 k0' k1' k2' k3' k5':Option Value} {newId newId':String}
theorem excMatches_under {h:Heap} {g:Array GenState} {d:Drawn} {t:Nat} {os:OsState} {e:Addr} {oe:Obj} {Q:Bool→Shared→Prop}
  (hC:h.get? C=some (excClassObj nm q C N bs bm hdct sn sub ab col dd k0 k1 k2 k3 k5 newId)) (hD:h.get? D=some (excClassObj nm' q' D N' bs' bm' hdct' sn' sub' ab' col' dd' k0' k1' k2' k3' k5' newId')) (he:h.get? e=some oe) (hcls:oe.cls=.ref C)
  (hbase:bm'.contains (.type "BaseException")=true) (hsub:(Value.ref C :: bm).contains (.ref D)=true)
  (hq:Q true ⟨h,g,d,t,os⟩):wpAny M A (excMatches (.ref e) (.ref D)) Q E ⟨h,g,d,t,os⟩:=by
 have hcB:(Value.ref D :: bm').contains (.type "BaseException")=true:=by rw [List.contains_cons,hbase,Bool.or_true]
 have f:=tc_notTuple
 unfold excMatches
 repeat (first | (with_reducible refine wpAny_loadPart_at he ?_;rw [hcls]) | with_reducible refine wpAny_loadPart_at hD ?_ | (with_reducible refine wpAny_isSubtype_exc hD ?_;rw [hcB]) | (with_reducible refine wpAny_isSubtype_exc hC ?_;rw [hsub]) | wp_step)
 exact hq
end
end PySem
namespace L2
open PySem PySem.Spec PyProof.Rows
section
variable {X:Cx} {pins:List (Addr × Obj)} {σ:St} {H:Hp} {s:Shared}
theorem unbind_ok {M:Model} {A:Around} {E:Value→Shared→Prop} {i:Nat} {x:Str} {v:V} {pos:Pos} {Q:Unit→Shared→Prop} (I:Inv X pins σ H s) (hN:X.N.Nodup) (hi:X.N[i]?=some x) (hk:X.env.kindOf x=some .local)
  (h:∀ s',Inv X pins (σ.set i none) H s'→Q () s'):wpAny M A (do bindName X.env x .none;unbindBehindTheSuite X.env x pos) Q E s:=by
 have hloc:X.env.scope.names.lookup x=some .local:=hk
 refine wpAny_bind (wpAny_bindName (store_ok (v:=.non) I hN hi (.inl hloc) rfl (fun s1 I1=>?_) (.inr hloc)))
 unfold unbindBehindTheSuite
 have hiσ:i < σ.length:=by rw [I.len];exact (List.getElem?_eq_some_iff.mp hi).1
 obtain ⟨m,hn,hl⟩:=id I1.loc
 obtain ⟨u,ru,lk⟩:=hl i x .non hi (List.getElem?_set_self hiσ) (.inl hloc)
 have hm:m x=some u:=by
  rcases lk with ⟨_,e⟩ | ⟨z,_⟩
  ·exact e
  ·rw [hk] at z;rcases z with z | z <;> cases z
 have hcls:(X.env.scope.kind == .class || (X.env.scope.kind == .module && X.env.locals != X.env.globals))=false:=by rw [I.ok.kind];rfl
 refine wpAny_onRaise (wpAny_unbindName_local hk hn hm hcls fun h' u' hn' hs=>?_)
 have cne:=I1.cne
 obtain ⟨oL,_,_,hoL,_⟩:=id hn
 refine h _ ⟨I1.ok,I1.os,I1.bare,⟨fun b o e n hb hx=>?_,fun b o e n hb hx=>?_,I1.base.free,fun b o e hx=>?_,I1.base.tups,I1.base.frzs,I1.base.tbls⟩,⟨_,hn',fun j y v' e1 e2 e3=>?_⟩,fun y c e=>?_,I1.free,I1.freeC,fun p hp=>?_,fun b ob e=>?_,by rw [List.length_set];exact I.len⟩
 ·exact (hs.2 b (Nat.ne_of_lt (Nat.lt_of_lt_of_le (Heap.lt_size e) I1.ok.above))).trans (I1.base.keep b o e n hb hx)
 ·obtain ⟨sl,e1⟩:=I1.base.slot b o e n hb hx
  exact ⟨sl,(hs.2 b (Nat.ne_of_lt (Nat.lt_of_lt_of_le (Heap.lt_size e) I1.ok.above))).trans e1⟩
 ·obtain ⟨o',e1⟩:=I1.base.there b o e hx
  exact ⟨o',(hs.2 b (Nat.ne_of_lt (Nat.lt_of_lt_of_le (Heap.lt_size e) I1.ok.above))).trans e1⟩
 ·by_cases hj:j=i
  ·subst hj
   rw [List.getElem?_set_self hiσ] at e2
   cases e2
  ·rw [List.getElem?_set_ne (Ne.symm hj)] at e2
   obtain ⟨u',r',q⟩:=hl j y v' e1 (by rw [List.getElem?_set_ne (Ne.symm hj)];exact e2) e3
   refine ⟨u',r',?_⟩
   rcases q with ⟨k,e⟩ | ⟨k,c,e,z⟩
   ·refine .inl ⟨k,?_⟩
    have:y≠x:=fun e=>hj (nodup_ix hN e1 (e ▸ hi))
    simp [this,e]
   ·exact .inr ⟨k,c,e,z.sameBut hs (cne y c e)⟩
 ·obtain ⟨w',z⟩:=I1.cell y c e
  exact ⟨w',z.sameBut hs (cne y c e)⟩
 ·obtain ⟨e,n,ne,nf,d⟩:=I1.pin p hp
  exact ⟨(hs.2 p.1 ne).trans e,n,ne,nf,d⟩
 ·refine (I1.hok b ob e).stay (fun c w' hc q=>(hs.2 c ?_).trans q) (fun _ q=>q) fun _ _ q=>q
  rintro rfl
  rcases hc with rfl | hc
  ·rw [I1.free] at e;cases e
  ·rw [I1.free] at hc;cases hc
abbrev Cx.held (X:Cx) (ea:Addr):Cx:={ X with A:=X.A.mark (some (.ref ea)),calm:=false,xe:=fun _ _=>False }
theorem Inv.held (I:Inv X pins σ H s) (ea:Addr):Inv (X.held ea) pins σ H s:=
 ⟨⟨I.ok.mod,I.ok.kind,I.ok.glob,I.ok.blt,I.ok.above,I.ok.inj,I.ok.has,I.ok.cab,(fun z=>by cases z),I.ok.frames,I.ok.stk,I.ok.exf,I.ok.bs,I.ok.bsz,I.ok.noex,I.ok.exfs,I.ok.funs,I.ok.frf⟩,I.os,I.bare,I.base,I.loc,I.cell,I.free,I.freeC,I.pin,I.hok,I.len⟩
theorem Inv.unheld {ea:Addr} (hd:X.calm=true→X.A.handled=none) (I:Inv (X.held ea) pins σ H s):Inv X pins σ H s:=
 ⟨⟨I.ok.mod,I.ok.kind,I.ok.glob,I.ok.blt,I.ok.above,I.ok.inj,I.ok.has,I.ok.cab,hd,I.ok.frames,I.ok.stk,I.ok.exf,I.ok.bs,I.ok.bsz,I.ok.noex,I.ok.exfs,I.ok.funs,I.ok.frf⟩,I.os,I.bare,I.base,I.loc,I.cell,I.free,I.freeC,I.pin,I.hok,I.len⟩
end
def Under (K:PySem.W.Frag) (C D:Addr):Prop:=∃ dd cd sl,K.lookup C=some ⟨.type "type",dd,.cls cd,sl⟩∧cd.mro.contains (.ref D)=true
section
variable {X:Cx} {P:Program} {w:World} {e tg:Expr} {tx:TX} {g:TG} {i:Nat} {n x:Str} {D:Addr} {bmD:List Value} {nD:String} {b₀:Stmt} {suite:List Stmt} {apos pos hpos np:Pos} {ts:Addr→TS}
def tTryAs (K:PySem.W.Frag) (D:Addr) (tx:TX) (g:TG) (i:Nat) (ts:Addr→TS):TS:=fun De σ H=>
 tx σ H (fun v H1=>g v σ H1 De.nx) (fun cls od H'=>∃ C bm nid,cls=.ref C∧XCls K C bm nid∧Under K C D∧∀ ea,H' ea=none →
  ts ea { nx:=fun σ2 H2=>De.nx (σ2.set i none) H2,rt:=De.rt,bk:=fun σ2 H2=>De.bk (σ2.set i none) H2,ct:=fun σ2 H2=>De.ct (σ2.set i none) H2 } (σ.set i (some (.ref ea))) (upd H' ea (xo ea (.ref C) od)))
end
end L2
set_option Elab.async false
set_option linter.all false
set_option maxRecDepth 100000
namespace L2
open PySem PySem.Spec PyProof.Rows
section
variable {X:Cx} {pins:List (Addr × Obj)} {σ:St} {H:Hp} {s:Shared}
theorem Inv.moved {ch:List Addr} {h':Heap} {tk:Nat} (I:Inv X pins σ H s) (hf:∀ b∈ch,FpOk X pins H b) (k:∀ b o,b ∉ ch→s.heap.get? b=some o→h'.get? b=some o):Inv X pins σ H { s with heap:=h',toks:=tk }:=by
 have nH:∀ b o,H b=some o→b ∉ ch:=fun b o e z=>by rw [(hf b z).1] at e;cases e
 refine I.call' (s':={ s with heap:=h',toks:=tk }) (ch:=ch) rfl ⟨fun b o e _ _ hc=>k b o hc e,fun b o e _ _ hc=>⟨o.slots,k b o hc e⟩,fun b o e n hc=>n,fun b o e hc=>⟨o,k b o hc e⟩,fun b xs q=>q,fun b o y q=>q,fun b qs q=>⟨#[],by rw [q];simp⟩⟩
  (fun b o e=>(I.hok b o e).stay (fun c u hc q=>k c u (by
   rcases hc with rfl | hc
   ·exact nH _ _ e
   ·exact nH _ _ hc) q) (fun _ q=>q) fun _ _ q=>q) I.bare fun b hb=>?_
 obtain ⟨f0,f1,f2,f3,f4,f5⟩:=hf b hb
 exact ⟨f3,f1,f4,f5⟩
theorem Inv.movedT {ch:List Addr} {h':Heap} {tk:Nat} {T:Addr} {ob:HO} (I:Inv X pins σ H s) (hf:∀ b∈ch,FpOk X pins H b) (k:∀ b o,b ∉ ch→s.heap.get? b=some o→h'.get? b=some o) (hT:s.heap.objs.size≤T) (new:ObjOk X.prog X.w (upd H T ob) h' T ob) :
  Inv X pins σ (upd H T ob) { s with heap:=h',toks:=tk }:=by
 have nH:∀ b o,H b=some o→b ∉ ch:=fun b o e z=>by rw [(hf b z).1] at e;cases e
 have hn:H T=none:=I.hok.fresh hT
 have nT:∀ b o,s.heap.get? b=some o→b≠T:=fun b o e z=>by rw [z] at e;exact absurd (Heap.lt_size e) (Nat.not_lt.mpr hT)
 refine I.call' (s':={ s with heap:=h',toks:=tk }) (ch:=ch) rfl ⟨fun b o e _ _ hc=>k b o hc e,fun b o e _ _ hc=>⟨o.slots,k b o hc e⟩,fun b o e n hc=>by rw [upd_ne (nT b o e)];exact n,fun b o e hc=>⟨o,k b o hc e⟩,fun b xs q=>by rw [upd_ne (ne_of_none q hn)];exact q,fun b o y q=>by rw [upd_ne (ne_of_none q hn)];exact q,fun b qs q=>⟨#[],by rw [upd_ne (ne_of_none q hn),q];simp⟩⟩
  (fun b o e=>?_) I.bare fun b hb=>?_
 ·by_cases hb:b=T
  ·subst hb
   rw [upd_same] at e
   cases e
   exact new
  ·rw [upd_ne hb] at e
   exact (I.hok b o e).stay (fun c u hc q=>k c u (by
    rcases hc with rfl | hc
    ·exact nH _ _ e
    ·exact nH _ _ hc) q) (fun c q=>by rw [upd_ne (ne_of_none q hn)];exact q) fun c xs q=>by rw [upd_ne (ne_of_none q hn)];exact q
 ·obtain ⟨f0,f1,f2,f3,f4,f5⟩:=hf b hb
  exact ⟨f3,f1,f4,f5⟩
end
def Itz (K:PySem.W.Frag) (a b:Addr):It:=
 ⟨fun i H=>∃ xs ys x y,SqL K H a xs∧SqL K H b ys∧xs[i]?=some x∧ys[i]?=some y,fun i H v H'=>∃ T x y,v=.ref T∧H T=none∧H'=upd H T (.tup [x,y])∧(∀ xs,SqL K H a xs→xs[i]?=some x)∧∀ ys,SqL K H b ys→ys[i]?=some y,
  fun i H=>∃ xs ys,SqL K H a xs∧SqL K H b ys∧(xs.length≤i∨ys.length≤i)⟩
section
variable {X:Cx} {elts:List Expr} {x1:Nat} {tp:Pos}
def iZip (K:PySem.W.Frag) (ta:TA):TI:=fun σ H R=>ta σ H fun vs H1=>∃ a b xs ys,vs=[.ref a,.ref b]∧SqL K H1 a xs∧SqL K H1 b ys∧R (Itz K a b) H1
end
end L2
set_option Elab.async false
set_option linter.all false
set_option maxRecDepth 100000
namespace PySem.W
open PySem PySem.Spec PySem.Calls PyProof.Rows
section
variable {prog:Program} {w:World} {A:Around} {E:Value→Shared→Prop} {s:Shared} {K:Frag} {x D:Addr} {ox:Obj} {odo:Option Obj} {name:Str}
theorem ga_bind (self:Value):bindSpecial (.builtin "BaseException.__getattribute__") self=pure (.builtin "BaseException.__getattribute__",[self]):=F.excAttr_ValueError.ga.bind self
theorem ga_check {tk:Tok} {Q:Unit→Shared→Prop} (X:K.In s.heap) (I:InstAt s.heap x ox D odo) (hb:mroIn K D (.type "BaseException")=some true) (h:Q () s) :
  wpAny (model prog w) A (checkBuiltinCall "BaseException.__getattribute__" ⟨[.ref x,.str name tk],[]⟩) Q E s:=by
 have L0:=I.type (M:=model prog w)
 have L1:=looks_mroIn (M:=model prog w) X hb
 have LI:Looks (model prog w) s.heap (isInstance (.ref x) (.type "BaseException")) true:=L0.andThen L1
 have hk:builtinKind "BaseException.__getattribute__" = some .slot:=by decide +kernel
 have hs:splitId "BaseException.__getattribute__" = some ("BaseException","__getattribute__"):=by decide +kernel
 have ha:=F.args_bexc_ga (.ref x) (.str name tk)
 simp only [checkBuiltinCall,hk,hs]
 refine wpAny_bind (LI.at ?_)
 simp only [Bool.not_true,Bool.false_eq_true,if_false]
 cases hsig:Manifest.signature? "BaseException.__getattribute__" with
 | none=>exact wpAny_pure h
 | some sig=>
  simp only [argsOk,hsig] at ha
  show wpAny _ _ (Bind.checkArgs _ sig _) Q E s
  rw [ha]
  exact wpAny_pure h
theorem exc_bound {g a v:Value} {Q:Option Value→Shared→Prop} (X:K.In s.heap) (I:InstAt s.heap x ox D odo) (hga:findIn K (.ref D) "__getattribute__" = some (some (.builtin "BaseException.__getattribute__"))) (hgh:findIn K (.ref D) "__getattr__" = some none)
  (hb:mroIn K D (.type "BaseException")=some true) (hf:findObj K D odo name=some (.bind g a))
  (hc:∀ (A':Around) (R:Result→Shared→Prop),R (.ok (.ret v)) { s with toks:=s.toks + 1 }→codeAny (model prog w) A' (.call g ⟨[a,.ref x,.ref D],[]⟩) R { s with toks:=s.toks + 1 }) (hv:handedIn v=true) (h:Q (some v) { s with toks:=s.toks + 1 }) :
  wpAny (model prog w) A (getAttr? (.ref x) name) Q E s:=by
 obtain ⟨hh,gg,d,t,os⟩:=s
 have L0:=I.type (M:=model prog w)
 have L1:=looks_findIn (M:=model prog w) X hga
 have L2:=looks_findIn (M:=model prog w) X hgh
 have L3:=looks_find (M:=model prog w) X I hf
 unfold getAttr? getAttrBy? getAttrBy
 refine wpAny_bind (wpAny_mkText (wpAny_bind (wpAny_attempt (wpAny_holding (wpAny_bind (L0.at (wpAny_bind (L1.at ?_))))))))
 show wpAny _ _ (getAttrByItsOwn _ _ _ _ _ _) _ _ _
 unfold getAttrByItsOwn hookBefore
 refine wpAny_bind (L2.at ?_)
 refine wpAny_bind (wpAny_attempt (wpAny_holding ?_))
 unfold callGetattribute boundAndCalled
 show wpAny _ _ (bindSpecial _ _ >>= _) _ _ _
 rw [ga_bind]
 refine wpAny_bind (wpAny_pure ?_)
 refine wpAny_call (codeAny_call_builtin F.excAttr_ValueError.ga.plain F.entry_bexc_ga (ga_check X I hb ?_))
 have e1:slotArgs "__getattribute__" 1 ⟨[.ref x,.str name t],[]⟩=pure (.ref x,[.str name t]):=rfl
 unfold Builtin.«object.__getattribute__»
 show wpAny _ _ (slotArgs "__getattribute__" 1 ⟨[.ref x,.str name t],[]⟩ >>= _) _ _ _
 rw [e1]
 refine wpAny_bind (wpAny_pure ?_)
 refine wpAny_bind (wpAny_pure (wpAny_bind (L0.at (wpAny_bind (L3.at ?_)))))
 show wpAny _ _ (holding [a] (call g [a,.ref x,.ref D]) >>= ret) _ _ _
 refine wpAny_bind (wpAny_holding (wpAny_call (hc _ _ (wpAny_pure ?_))))
 exact handed_on hv (wpAny_pure h)
theorem exc_class {Q:Option Value→Shared→Prop} (X:K.In s.heap) (I:InstAt s.heap x ox D odo) (hga:findIn K (.ref D) "__getattribute__" = some (some (.builtin "BaseException.__getattribute__"))) (hgh:findIn K (.ref D) "__getattr__" = some none)
  (hb:mroIn K D (.type "BaseException")=some true) (hm:mroIn K D (.type "object")=some true) (hf:findObj K D odo "__class__" = some (.bind (.builtin "getset_descriptor.__get__") (.builtin "object.__class__"))) (h:Q (some (.ref D)) { s with toks:=s.toks + 1 }) :
  wpAny (model prog w) A (getAttr? (.ref x) "__class__") Q E s:=
 exc_bound (v:=.ref D) X I hga hgh hb hf (fun A' R hR=>class_get (s:={ s with toks:=s.toks + 1 }) (ox:=ox) (od:=odo) X I hm hR) rfl h
structure XTy (K:Frag) (D:Addr):Prop where
 ga:findIn K (.ref D) "__getattribute__" = some (some (.builtin "BaseException.__getattribute__"))
 gh:findIn K (.ref D) "__getattr__" = some none
 mb:mroIn K D (.type "BaseException")=some true
 mo:mroIn K D (.type "object")=some true
 ha:findIn K (.ref D) "__class__" = some (some (.builtin "object.__class__"))
 hn:specialIn K (.builtin "object.__class__") "__get__" = some (some (.builtin "getset_descriptor.__get__"))
 tk:takesIn K (.builtin "object.__class__")=some true
 cl:∃ dd cd sl,K.lookup D=some ⟨.type "type",dd,.cls cd,sl⟩
theorem XTy.find (c:XTy K D):findObj K D odo "__class__" = some (.bind (.builtin "getset_descriptor.__get__") (.builtin "object.__class__")):=by
 obtain ⟨dd,cd,sl,hl⟩:=c.cl
 have hc:clsIn K D=some cd:=by unfold clsIn;rw [hl]
 unfold findObj
 rw [hc,Option.bind_some,c.ha,Option.bind_some]
 simp [c.hn,c.tk]
theorem kitx_exc (c:XTy K D):KitX K (.ref x) (.ref D) (fun h=>∃ ox,InstAt h x ox D odo) where
 ty:=fun _ _ _ ⟨_,I⟩=>I.type
 it:=fun _ _ X _=>by
  obtain ⟨dd,cd,sl,hl⟩:=c.cl
  intro A' Q' E' s' k q
  unfold isType loadHead
  exact wpAny_bind (wpAny_loadPart (k _ _ (X _ _ hl)) (wpAny_pure q))
 ne:=fun h tp dd its n sl X htp=>by
  obtain ⟨dd,cd,sl,hl⟩:=c.cl
  refine Bool.eq_false_iff.mpr fun q=>?_
  have e:D=tp:=Value.ref.inj (beq_iff_eq.mp q)
  subst e
  have z:=congrArg (fun o=>o.map Obj.cls) ((X _ _ hl).symm.trans htp)
  simp at z
 ca:=fun X ⟨_,I⟩ k=>exc_class X I c.ga c.gh c.mb c.mo c.find k
end
end PySem.W
namespace L2
open PySem PySem.Spec PyProof.Rows
section
variable {X:Cx}
theorem exc_inst {h:Heap} {a C:Addr} (e:ExcAt a (.ref C) none h):∃ ox,PySem.W.InstAt h a ox C none:=by
 obtain ⟨o,vs,e1,e2,e3,e4⟩:=e
 exact ⟨o,e1,e2,by unfold PySem.W.notCls;rw [e4],by rw [e3];trivial⟩
theorem vals_cls:∀ {cs:List V} {us:List Value},Vals cs us→(∀ c∈cs,isClsV c=true)→us=cs.map clsV
 | [],_,.nil,_=>rfl
 | c :: cs,_,.cons r t,h=>by rw [List.map_cons,clsV_of r (h c (by simp)),vals_cls t fun z hz=>h z (by simp [hz])]
end
end L2
set_option Elab.async false
set_option linter.all false
set_option maxRecDepth 100000
namespace L2
open PySem PySem.Spec PyProof.Rows
structure XR (K:PySem.W.Frag) (C:Addr):Prop where
 ex:∃ (bm bmN:List Value) (newId Bn inN B nid initId:String),XCls K C bm newId∧ExcBaseFacts Bn newId inN bmN∧bm.contains (.type Bn)=true∧ExcBaseFacts B nid initId bm
theorem ps_raiseX {X:Cx} {x:Str} {np cpos pos:Pos} {e₀:Expr} {rest:List Expr} {t:TA} {C:Addr} {E:XK} (c:XR X.K C) (hc:X.calm=true) (hg:Gl X x) (hm:X.mg x=some (.ref C)) (hx:Makes X E) (ha:PA X (e₀ :: rest) t)
  (hd:(x == ("__debug__":Str))=false:=by decide +kernel)
  (he:starEach (e₀ :: rest) X.env=(false,eval e₀ X.env) :: starEach rest X.env:=by rfl) (hpl:(backTo cpos (starEach rest X.env)).any (·.1)=false:=by rfl) :
  PS X (.Raise (some (.Call (.Name x np) (e₀ :: rest) [] cpos)) none pos) (tRaise C E t):=by
 obtain ⟨bm,bmN,newId,Bn,inN,B,nid,initId,c1,c2,c3,c4⟩:=c.ex
 exact ps_raise c1 c2 c3 c4 hc hg hm hx ha hd he hpl
section
variable {P:Program} {w:World} {K:PySem.W.Frag} {mg:Str→Option Value} {base:Heap}
theorem Fun.okX {x qual:Str} {st:Stmt} {f:Addr} {fd:FuncData} {N ps:List Str} {k:Nat} {sp:Sp} (F:Fun K x qual st f fd) (S:FnScope N ps (defScope st)) (len:∀ vs H Q E,sp vs H Q E→vs.length=ps.length)
  (hbody:∀ (cdv:Value) (A:Around) (outer:List Env) (s:Shared) (H:Hp) (vs:List V) (Q:VK) (E:XK),Room k (A.deeper (envOfC qual (defScope st) s.heap.objs.size f cdv))→sp vs H Q E →
   ∃ t,PSs (cxOf (CX1 P w) P w K mg base N qual (defScope st) f cdv A outer s H E) (defBody st) t∧t { nx:=fun _ H'=>Q .non H',rt:=Q } (start N vs) H):FnOk P w K mg base (CX1 P w) (k + 1) f fd ps sp:=by
 obtain ⟨oc,od,kV,doc,pm,an,cdv,ct,osl,rfl,lk,hcd⟩:=F.ex
 exact fn_of lk hcd S len fun A outer s H vs Q E hr hsp=>hbody cdv A outer s H vs Q E hr hsp
theorem FnOk.lift {CX:CXT} {k:Nat} {f:Addr} {fd:FuncData} {ps:List Str} {sp:Sp} (F:FnOk P w K mg base CX0 k f fd ps sp):FnOk P w K mg base CX k f fd ps sp:=
 ⟨F.len,fun A outer s H args us vs Q E hr he hb hv hs=>codeAny_mono (F.run A outer s H args us vs Q E hr he hb hv hs) fun r s' hq=>by
  cases r with
  | error e=>exact False.elim hq
  | ok fl=>cases fl <;> exact hq⟩
theorem Cal.lift {CX:CXT} {k:Nat} {x:Str} {ps:List Str} {sp:Sp} (c:Cal P w K mg base CX0 k x ps sp):Cal P w K mg base CX k x ps sp:=by
 obtain ⟨f,fd,F,r⟩:=c.ex
 exact ⟨f,fd,F.lift,r⟩
end
theorem pg_tupK {X:Cx} {K:PySem.W.Frag} {es:List Expr} {k:Nat} {t:TGs} {n:Nat} {pos:Pos} (hK:X.K=K) (hc:X.calm=true) (h:PGs X es t)
  (hn:(assignEach es X.env).length=n:=by rfl) (hst:(assignEach es X.env).findIdx? (·.1)=none:=by rfl):PG X (.Tuple es k pos) (gTup K n t):=hK ▸ pg_tup hc h hn hst
section
variable {K:PySem.W.Frag} {g:TG} {ti:TT} {te:TE} {σ:St} {H:Hp} {Q:List V→Hp→Prop}
end
end L2
namespace QL
open PySem
theorem bt_ValueError:bootBuiltins "ValueError" = some (.type "ValueError"):=by decide +kernel
end QL
set_option Elab.async false
set_option linter.all false
set_option maxRecDepth 100000
namespace L2
open PySem PySem.Spec PyProof.Rows
def Ite (K:PySem.W.Frag) (a:Addr):It:=
 ⟨fun i H=>∃ xs x,SqL K H a xs∧xs[i]?=some x,fun i H v H'=>∃ T x,v=.ref T∧H T=none∧H'=upd H T (.tup [.int (i:Int),x])∧∀ xs,SqL K H a xs→xs[i]?=some x,fun i H=>∃ xs,SqL K H a xs∧xs.length≤i⟩
def Itse (x:Str):It:=
 ⟨fun i _=>i < x.cps.size,fun i H v H'=>∃ T c,v=.ref T∧H T=none∧H'=upd H T (.tup [.int (i:Int),.str ⟨#[c]⟩])∧x.cps[i]?=some c,fun i _=>i=x.cps.size⟩
theorem turn_enum {P:Program} {w:World} {K:PySem.W.Frag} {elts:List Expr} {x1:Nat} {tp:Pos} {e it l:Addr} (hei:e≠it) :
  Turn P w K (.Tuple elts x1 tp) (Ite K l) [e,it] e (fun i h=>(∃ old,IsEnum h e it i old)∧h.IsListIter it l i) where
 mem:=by simp
 obj:=fun i h st b hb=>by
  obtain ⟨⟨old,he⟩,⟨o1,e1,c1,d1⟩⟩:=st
  simp only [List.mem_cons,List.not_mem_nil,or_false] at hb
  rcases hb with rfl | rfl
  ·exact ⟨_,he,fun v q=>by cases q⟩
  ·exact ⟨_,e1,fun v q=>by rw [d1] at q;cases q⟩
 keep:=fun i h h' st hk=>by
  obtain ⟨⟨old,he⟩,h1⟩:=st
  exact ⟨⟨old,hk e (by simp) _ he⟩,h1.at fun o e'=>hk it (by simp) o e'⟩
 item:=by
  intro X hP hw hK hc i pins s σ H E I hf st hg
  subst hP hw hK
  obtain ⟨xs,x,hq,hx⟩:=hg
  obtain ⟨its,rv,p,hz⟩:=I.list hq
  obtain ⟨u,hu,ru⟩:=rv.get hx
  obtain ⟨⟨old,he⟩,h1⟩:=st
  obtain ⟨o1,e1,_⟩:=id h1
  refine wpAny_pyNext_enum_item he h1 p.isList (x:=u) (by simpa using hu) hei fun h' a1 a2 a3 a4 hk=>?_
  refine ⟨_,rfl,wpAny_letOwnedTupleGo_enum a1 fun h2 he2 hs2=>?_⟩
  have hfree:H s.heap.objs.size=none:=I.hok.fresh (Nat.le_refl _)
  have lt:∀ {c o},s.heap.get? c=some o→s.heap.objs.size≠c:=fun e=>Nat.ne_of_gt (Heap.lt_size e)
  have kk:∀ c o,c ∉ [e,it]→s.heap.get? c=some o→h2.get? c=some o:=fun c o hc q=>
   hs2.extBut _ _ (fun z=>hc (by simp [z])) (hk c o (fun z=>hc (by simp [z])) (fun z=>hc (by simp [z])) q)
  have hT:h2.get? s.heap.objs.size=some { cls:=.type "tuple",data:=.seq #[.int i s.toks,u] }:=hs2.extBut _ _ (lt he) a3
  refine ⟨.ref s.heap.objs.size,upd H s.heap.objs.size (.tup [.int i,x]),I.movedT (tk:=s.toks + 1) hf kk (Nat.le_refl _) ⟨show 2≤sizeLine from by decide +kernel,[.int i s.toks,u],.cons ⟨_,rfl⟩ (.cons ru .nil),_,hT,rfl,_,rfl⟩,rfl,
   ⟨_,x,rfl,hfree,rfl,fun zs hzs=>by rw [I.list_inj hzs hq];exact hx⟩,⟨⟨u,by simpa using he2⟩,a2.extBut hs2.extBut (Ne.symm hei)⟩,fun b hb=>?_⟩
  have hlt:b≠s.heap.objs.size:=by
   simp only [List.mem_cons,List.not_mem_nil,or_false] at hb
   rcases hb with rfl | rfl
   ·exact (lt he).symm
   ·exact (lt e1).symm
  rw [upd_ne hlt]
  exact (hf b hb).1
 done:=by
  intro X hP hw hK hc i pins s σ H E I hf st hg
  subst hP hw hK
  obtain ⟨xs,hq,hx⟩:=hg
  obtain ⟨its,rv,p,hz⟩:=I.list hq
  obtain ⟨⟨old,he⟩,h1⟩:=st
  have l1':=rv.length
  refine wpAny_pyNext_enum_end (I.ok.hd hc) he h1 p.isList (by simp;omega) fun h' hk=>⟨rfl,I.moved (tk:=s.toks) hf fun c o hc e=>hk c o (fun q=>hc (by simp [q])) e⟩
 self:=fun _ _ _ _ _ st h=>let ⟨⟨_,he⟩,_⟩:=st;wpAny_pyIter_enum he h
section
variable {X:Cx} {elts:List Expr} {x1:Nat} {tp:Pos}
def iEnum (K:PySem.W.Frag) (ta:TA):TI:=fun σ H R=>ta σ H fun vs H1=>∃ a xs,vs=[.ref a]∧SqL K H1 a xs∧R (Ite K a) H1
theorem pi_enum {a:Expr} {ta:TA} {p pos:Pos} (hg:Gl X "enumerate") (hm:X.mg "enumerate" = none) (ha:PA X [a] ta) (hs:starEach [a] X.env=[(false,eval a X.env)]:=by rfl):PI X (.Tuple elts x1 tp) (.Call (.Name "enumerate" p) [a] [] pos) (iEnum X.K ta):=by
 intro pins s σ H R I h
 refine Call_ (ld_blt I hg hm boot_enumerate (PyProof.Rows.callWith_type1 (thn (ha pos pins s σ H _ I h) fun us s1 ⟨vs,H1,I1,r1,q1⟩=>?_) (by rw [hs];rfl) (by rfl)))
 obtain ⟨l,xs,rfl,hq,q⟩:=q1
 obtain ⟨u,rfl,ru⟩:=r1.one
 cases ru
 obtain ⟨its,rv,p1,_⟩:=I1.list hq
 refine call_enumerate_list p1.isList fun h' z1 z2 z3 hk=>?_
 have I2:Inv X pins σ H1 { s1 with heap:=h' }:=I1.kept (t':=s1.toks) hk
 refine wpAny_pyIter_enum z1 ?_
 refine ⟨s1.heap.objs.size + 1,[s1.heap.objs.size + 1,s1.heap.objs.size],_,_,H1,rfl,I2,turn_enum (l:=l) (Nat.ne_of_gt (Nat.lt_succ_self _)),⟨⟨_,z1⟩,z2⟩,fun b hb=>?_,q⟩
 have hb':s1.heap.objs.size≤b:=by
  simp only [List.mem_cons,List.not_mem_nil,or_false] at hb
  rcases hb with e | e <;> (rw [e];first | exact Nat.le_refl _ | exact Nat.le_add_right _ _)
 exact I1.fpOk hb' (I1.hok.fresh hb')
def iEnumS (ta:TA):TI:=fun σ H R=>ta σ H fun vs H1=>∃ x,vs=[.str x]∧R (Itse x) H1
end
section
variable {K:PySem.W.Frag} {g:TG} {tb:TS} {D:Ends} {σ:St} {H:Hp}
theorem forw_enum {a:Addr} {xs:List V} (Pv:Nat→St→Hp→Prop) (h0:Pv 0 σ H) (hl:∀ i σ H,i≤xs.length→Pv i σ H→SqL K H a xs)
  (hs:∀ (i:Nat) x σ H T,xs[i]?=some x→Pv i σ H→H T=none→g (.ref T) σ (upd H T (.tup [.int (i:Int),x])) fun σ2 H2=>tb { D with nx:=Pv (i + 1),ct:=Pv (i + 1),bk:=D.nx } σ2 H2) (hd:∀ σ H,Pv xs.length σ H→D.nx σ H):ForW (Ite K a) g tb D σ H:=by
 refine ⟨fun i m σ H=>m=xs.length - i∧i≤xs.length∧Pv i σ H,⟨xs.length,by simp,Nat.zero_le _,h0⟩,?_⟩
 rintro i m σ H ⟨rfl,hi,p⟩
 have q:=hl i σ H hi p
 by_cases hlt:i < xs.length
 ·refine .inr ⟨⟨xs,xs[i],q,by simp [hlt]⟩,Pv (i + 1),fun σ' H' p'=>⟨xs.length - (i + 1),by omega,rfl,hlt,p'⟩,fun x H' y=>?_⟩
  obtain ⟨T,x,rfl,hT,rfl,y⟩:=y
  exact hs i x σ _ T (y xs q) p hT
 ·have e:i=xs.length:=by omega
  subst e
  exact .inl ⟨⟨xs,q,Nat.le_refl _⟩,hd σ H p⟩
end
end L2
set_option Elab.async false
set_option linter.all false
set_option maxRecDepth 100000
namespace PySem
open Sem (wp)
section
variable {M:Model} {A:Around} {E:Value→Shared→Prop} {env:Env}
variable {nm q:Str} {C N:Addr} {bs bm:List Value} {hdct:Bool} {sn:List Str} {sub:List Value} {ab:Bool} {col:Option Bool} {dd:Option Addr} {k0 k1 k2 k3 k5:Option Value} {newId:String}
theorem raiseStmt_exc {s:Shared} {x:Sem Value} {Q:Flow→Shared→Prop} (hbase:bm.contains (.type "BaseException")=true) (hh:A.handled=none)
  (h:wpAny M A x (fun v s₁=>∃ e oe vs,v=.ref e∧s₁.heap.get? C=some (excClassObj nm q C N bs bm hdct sn sub ab col dd k0 k1 k2 k3 k5 newId)∧s₁.heap.get? e=some oe∧oe.cls=.ref C∧oe.data=.fields vs∧vs[1]?=some .none∧E (.ref e) s₁) E s) :
  wpAny M A (raiseStmt env (some x) none) Q E s:=by
 have hcB:(Value.ref C :: bm).contains (.type "BaseException")=true:=by rw [List.contains_cons,hbase,Bool.or_true]
 unfold raiseStmt
 refine wpAny_bind (wpAny_mono h (fun v s₁ h₁=>?_) fun _ _ x=>x)
 obtain ⟨e,⟨oc,od,dt,sl⟩,vs,rfl,hC,he,hc,hd,hv,hE⟩:=h₁
 dsimp only at hc hd
 subst hc hd
 obtain ⟨hp,g,d,tk,os⟩:=s₁
 repeat (first | with_reducible refine wpAny_loadPart_at he ?_ | with_reducible refine wpAny_loadPart_at hC ?_ | (with_reducible refine wpAny_isSubtype_exc hC ?_;rw [hcB]) | wp_step)
 rw [hv]
 refine wpAny_pure ?_
 rw [if_neg (by decide)]
 exact wpAny_pure (wpAny_raiseNew_none hh hE)
end
section
variable {prog:Program} {w:World} {A:Around} {E:Value→Shared→Prop} {h:Heap} {g:Array GenState} {d:Drawn} {t:Nat} {os:OsState}
variable {nm q:Str} {C N:Addr} {bs bm bmB:List Value} {hdct:Bool} {sn:List Str} {sub:List Value} {ab:Bool} {col:Option Bool} {dd:Option Addr} {k0 k1 k2 k3 k5:Option Value} {B Bn newId nid initId inN:String} {bmN:List Value} {K:PySem.W.Frag}
theorem type_call_exc_initU (Fn:ExcBaseFacts Bn newId inN bmN) (hBn:bmB.contains (.type Bn)=true) (F:ExcBaseFacts B nid initId bmB) (T:OwnTail h bmB bm) (X:K.In h) {rest:List Value} {fI:Addr} {Q:Fin→Shared→Prop}
  (hC:h.get? C=some (excClassObj nm q C N bs bm hdct sn sub ab col dd k0 k1 k2 k3 k5 newId)) (hi:PySem.W.findIn K (.ref C) "__init__" = some (some (.ref fI))) (hf:PySem.W.typeIn K (.ref fI)=some (.type "function"))
  (hq:∀ h' e,Heap.MadeExcOf h h' e (.ref C) rest →
   wpAny (model prog w) A (call (.ref fI) (.ref e :: rest)) (fun r s'=>r=.none∧Q (.done (.ret (.ref e))) s') E ⟨h',g,d,t,os⟩) (hrest:rest.length≤sizeLine) :
  wpAny (model prog w) A (Builtin.«type.__call__» ⟨.ref C :: rest,[]⟩) Q E ⟨h,g,d,t,os⟩:=by
 repeat (first | with_reducible refine wpAny_loadPart_at hC ?_ | with_reducible refine wpAny_madeBy_exc hC ?_ | wp_step)
 refine codeAny_call_builtin_code (Code.quiet_builtin _ Fn.quiet) (wpAny_check_new_subU Fn hBn T hC ?_)
 refine codeAny_exc_new_subU Fn hBn F T hC ?_ hrest
 show wpAny _ _ _ _ _ _
 have hC₁:=Heap.get?_push_of_some { cls:=.ref C,data:=.fields #[.ref h.objs.size,.none,.none,.none,.bool false,.none] }
  (Heap.get?_push_of_some { cls:=.type "tuple",data:=.seq rest.toArray } hC)
 have hget:((h.push { cls:=.type "tuple",data:=.seq rest.toArray }).push
   { cls:=.ref C,data:=.fields #[.ref h.objs.size,.none,.none,.none,.bool false,.none] }).get? (h.objs.size + 1)=some
   { cls:=.ref C,data:=.fields #[.ref h.objs.size,.none,.none,.none,.bool false,.none] }:=by heap_get
 have hcC:(Value.ref C :: bm).contains (.ref C)=true:=by simp
 have X₁:K.In ((h.push { cls:=.type "tuple",data:=.seq rest.toArray }).push { cls:=.ref C,data:=.fields #[.ref h.objs.size,.none,.none,.none,.bool false,.none] }):=
  X.keeps fun b o e=>Heap.get?_push_of_some _ (Heap.get?_push_of_some _ e)
 unfold isInstance
 repeat (first | with_reducible refine wpAny_loadPart_at hget ?_ | (with_reducible refine wpAny_isSubtype_exc hC₁ ?_;rw [hcC]) | wp_step)
 show wpAny _ _ (typeLookup (.ref C) _) _ _ _
 refine (PySem.W.looks_findIn X₁ hi).at ?_
 refine wpAny_holding (wpAny_bind ((PySem.W.bind_fn X₁ _ hf).at ?_))
 refine wpAny_bind (wpAny_mono (hq _ (h.objs.size + 1) ⟨fun b o hb=>Heap.get?_push_of_some _ (Heap.get?_push_of_some _ hb),Heap.get?_none_of_le (Nat.le_succ _),h.objs.size,hget,Heap.get?_none_of_le (Nat.le_refl _),?_⟩) (fun r s' hr=>?_) fun _ _ x=>x)
 ·exact Heap.get?_push_of_some _ (Heap.get?_push_at rfl rfl)
 ·obtain ⟨rfl,hQ⟩:=hr
  wp_walk
  exact hQ
theorem call_exc_initU (Fn:ExcBaseFacts Bn newId inN bmN) (hBn:bmB.contains (.type Bn)=true) (F:ExcBaseFacts B nid initId bmB) (T:OwnTail h bmB bm) (X:K.In h) {rest:List Value} {fI:Addr} {Q:Value→Shared→Prop}
  (hC:h.get? C=some (excClassObj nm q C N bs bm hdct sn sub ab col dd k0 k1 k2 k3 k5 newId)) (hi:PySem.W.findIn K (.ref C) "__init__" = some (some (.ref fI))) (hf:PySem.W.typeIn K (.ref fI)=some (.type "function"))
  (hq:∀ h' e,Heap.MadeExcOf h h' e (.ref C) rest →
   wpAny (model prog w) (A.under (.builtin "type.__call__" ⟨.ref C :: rest,[]⟩)) (call (.ref fI) (.ref e :: rest)) (fun r s'=>r=.none∧Q (.ref e) s') E ⟨h',g,d,t,os⟩) (hrest:rest.length≤sizeLine) :
  wpAny (model prog w) A (call (.ref C) rest) Q E ⟨h,g,d,t,os⟩:=by
 have f1:=tc_lookup
 have f2:=tc_bind (.ref C)
 have hT:(⟨h,g,d,t,os⟩:Shared).TypeIs (.ref C) "type":=⟨_,hC,rfl⟩
 refine wpAny_call (codeAny_of_tree ?_)
 show wpAny _ _ (callAny (.ref C) _) _ _ _
 repeat (any_goals (first | assumption | with_reducible refine wpAny_loadPart_at hC ?_ | wp_step))
 refine ⟨rfl,?_⟩
 refine codeAny_call_builtin_at (Code.quiet_builtin _ (by decide +kernel)) entry_typeCall (wpAny_check_type_call_sub hC (type_call_exc_initU (hrest:=hrest) Fn hBn F T X hC hi hf fun h' e hm=>?_))
 exact hq h' e hm
end
section
variable {prog:Program} {w:World} {A:Around} {E:Value→Shared→Prop} {s:Shared} {env:Env}
variable {nm q:Str} {C N:Addr} {bs bm bmB:List Value} {hdct:Bool} {sn:List Str} {sub:List Value} {ab:Bool} {col:Option Bool} {dd:Option Addr} {k0 k1 k2 k3 k5:Option Value} {B Bn newId nid initId inN:String} {bmN:List Value} {K:PySem.W.Frag}
theorem Raise_call_initU (Fn:ExcBaseFacts Bn newId inN bmN) (hBn:bmB.contains (.type Bn)=true) (F:ExcBaseFacts B nid initId bmB) {x:Str} {np cpos pos:Pos} {args:List Expr} {fI:Addr} {Q:Flow→Shared→Prop}
  (hbase:bm.contains (.type "BaseException")=true) (hh:A.handled=none) (hplain:(backTo cpos (starEach args env)).any (·.1)=false) (hi:PySem.W.findIn K (.ref C) "__init__" = some (some (.ref fI))) (hf:PySem.W.typeIn K (.ref fI)=some (.type "function"))
  (h:wpAny (model prog w) A (eval (.Name x np) env) (fun f s₁=>f=.ref C∧wpAny (model prog w) A (evalArgs (.ref C) true (backTo cpos (starEach args env)) [])
   (fun a s₂=>a.kw=[]∧a.pos.length≤sizeLine∧s₂.heap.get? C=some (excClassObj nm q C N bs bm hdct sn sub ab col dd k0 k1 k2 k3 k5 newId)∧K.In s₂.heap∧OwnTail s₂.heap bmB bm ∧
    ∀ h' e,Heap.MadeExcOf s₂.heap h' e (.ref C) a.pos→wpAny (model prog w) (A.under (.builtin "type.__call__" ⟨.ref C :: a.pos,[]⟩)) (call (.ref fI) (.ref e :: a.pos))
     (fun r s'=>r=.none∧∃ oe vs,s'.heap.get? C=some (excClassObj nm q C N bs bm hdct sn sub ab col dd k0 k1 k2 k3 k5 newId)∧s'.heap.get? e=some oe∧oe.cls=.ref C∧oe.data=.fields vs∧vs[1]?=some .none∧E (.ref e) s') E { s₂ with heap:=h' }) E s₁) E s) :
  wpAny (model prog w) A (exec (.Raise (some (.Call (.Name x np) args [] cpos)) none pos) env) Q E s:=by
 rw [arm_exec_Raise]
 simp only [evalOpt,Option.map]
 refine wpAny_bind (wpAny_standAt (raiseStmt_exc (C:=C) (nm:=nm) (q:=q) (N:=N) (bs:=bs) (bm:=bm) (hdct:=hdct) (sn:=sn) (sub:=sub) (ab:=ab) (col:=col) (dd:=dd) (k0:=k0) (k1:=k1) (k2:=k2) (k3:=k3) (k5:=k5) (newId:=newId) hbase hh (wpAny_bind (wpAny_mono (wpAny_Call_ofName (wpAny_mono h (fun f s₁ h₁=>?_) fun _ _ x=>x)) (fun v s₃ h₃=>wpAny_bind (wpAny_standAt (wpAny_pure h₃))) fun _ _ x=>x))))
 obtain ⟨rfl,h₁⟩:=h₁
 unfold callWith
 refine wpAny_bind (wpAny_holding (wpAny_mono h₁ (fun a s₂ h₂=>wpAny_bind (wpAny_standAt ?_)) fun _ _ x=>x))
 obtain ⟨apos,akw⟩:=a
 obtain ⟨hkw,hlen,hC,hX,T,h₂⟩:=h₂
 obtain rfl:akw=[]:=hkw
 obtain ⟨hp,g,d,tk,os⟩:=s₂
 simp only [hplain]
 refine wpAny_bind (wpAny_keeperOf_exc hC ?_)
 refine wpAny_bind (call_exc_initU (hrest:=hlen) Fn hBn F T hX hC hi hf fun h' e hm=>wpAny_mono (h₂ h' e hm) (fun r s' hr=>⟨hr.1,wpAny_bind (wpAny_holding (wpAny_point (wpAny_pure ?_)))⟩) fun _ _ x=>x)
 obtain ⟨_,oe,vs,a1,a2,a3,a4,a5,a6⟩:=hr
 exact ⟨e,oe,vs,rfl,a1,a2,a3,a4,a5,a6⟩
end
end PySem
namespace PySem.W
open PySem PySem.Spec PySem.Calls PyProof.Rows
open Builtin Builtin.ObjectAttr
def excOut (K:Frag) (C:Addr) (bmB:List Value) (newId:String):Bool:=match K.lookup C with
 | some ⟨.type "type",_,.cls cd,sl⟩=>(match cd.mro,sl.toList with
  | .ref C' :: bm,[_,_,_,_,some (.builtin n),_]=>C' == C && n == newId && !cd.hasDel && tailIn K bmB bm && nsOkIn K cd.ns
  | _,_=>false)
 | _=>false
def strip:List Value→List Value
 | .ref _ :: r=>strip r
 | l=>l
theorem refuse_strip (self:Value):∀ {l bm:List Value},strip l=bm→refuseLoop self "__setattr__" bm=pure ()→refuseLoop self "__setattr__" l=pure ()
 | [],_,e,h=>by rw [show ([]:List Value)=_ from e];exact h
 | .ref c :: r,_,e,h=>by rw [refuseLoop_ref];exact refuse_strip self (l:=r) e h
 | .type n :: r,_,e,h=>by rw [show (Value.type n :: r)=_ from e];exact h
 | .none :: r,_,e,h=>by rw [show (Value.none :: r)=_ from e];exact h
 | .bool b :: r,_,e,h=>by rw [show (Value.bool b :: r)=_ from e];exact h
 | .int i t :: r,_,e,h=>by rw [show (Value.int i t :: r)=_ from e];exact h
 | .float i t :: r,_,e,h=>by rw [show (Value.float i t :: r)=_ from e];exact h
 | .str i t :: r,_,e,h=>by rw [show (Value.str i t :: r)=_ from e];exact h
 | .bytes i t :: r,_,e,h=>by rw [show (Value.bytes i t :: r)=_ from e];exact h
 | .builtin n :: r,_,e,h=>by rw [show (Value.builtin n :: r)=_ from e];exact h
 | .ellipsis :: r,_,e,h=>by rw [show (Value.ellipsis :: r)=_ from e];exact h
 | .notImplemented :: r,_,e,h=>by rw [show (Value.notImplemented :: r)=_ from e];exact h
structure XSt (K:Frag) (C:Addr) (f:Str):Prop where
 sa:findIn K (.ref C) "__setattr__" = some (some (.builtin "object.__setattr__"))
 st:∃ cd,clsIn K C=some cd∧strip cd.mro=[.type "ValueError",.type "Exception",.type "BaseException",.type "object"]∧cd.hasDict=true∧cd.mro.contains (.type "object")=true∧cd.mro.isEmpty=false
 no:findIn K (.ref C) f=some none
section
variable {prog:Program} {w:World} {A:Around} {E:Value→Shared→Prop} {s:Shared} {K:Frag} {x C:Addr} {ox:Obj} {vs:Array Value} {name:Str} {v:Value}
theorem set_new {Q:Unit→Shared→Prop} (X:K.In s.heap) (c:XSt K C name) (hx:s.heap.get? x=some ox) (hcl:ox.cls=.ref C) (hdn:ox.dict=none) (hdt:ox.data=.fields vs)
  (h:∀ h' t',(∀ b o,b≠x→s.heap.get? b=some o→h'.get? b=some o)→h'.get? x=some { ox with dict:=some s.heap.objs.size }→h'.Ns1 s.heap.objs.size (fun y=>if y=name then some v else none)→Q () { s with heap:=h',toks:=t' }) :
  wpAny (model prog w) A (setAttr (.ref x) name v) Q E s:=by
 obtain ⟨cd,hc,hst,hhd,hob,hne⟩:=c.st
 obtain ⟨oc,od,dt,sl⟩:=ox
 dsimp only at hcl hdn hdt
 subst hcl hdn hdt
 have J:InstAt s.heap x ⟨.ref C,none,.fields vs,sl⟩ C none:=⟨hx,rfl,rfl,trivial⟩
 obtain ⟨hh,g,d,t,os⟩:=s
 have SF:=PySem.F.store_object
 refine set_plain X J c.sa ?_
 have sub:Looks (model prog w) hh (isInstance (.ref x) (.type "object")) true:=J.type.andThen (looks_mroIn X (by unfold mroIn;rw [hc,Option.bind_some,if_neg (by rw [hne];decide),hob]))
 refine codeAny_call_builtin SF.slot.plain SF.entry (@check_slot (model prog w) _ _ _ "object.__setattr__" "object" "__setattr__" (.ref x) [.str name t,v] [] _ SF.kind SF.split sub (SF.args (.ref x) (.str name t) v) ?_)
 have hm:Looks (model prog w) hh (mroOf (.ref C)) cd.mro:=(looks_clsIn X hc).andThen .now
 rw [osa_eq,refuse_eq]
 refine wpAny_bind (wpAny_bind (J.type.at (wpAny_bind (hm.at ?_))))
 rw [refuse_strip _ hst (PySem.F.store_ValueError.passes _)]
 refine wpAny_pure (wpAny_bind (J.type.at (wpAny_bind ((looks_findIn X c.no).at (wpAny_bind (wpAny_pure ?_))))))
 have hx₁:(hh.push { cls:=.type "dict",data:=.dict #[] }).get? x=some ⟨.ref C,none,.fields vs,sl⟩:=Heap.get?_push_of_some _ hx
 have hxs:x≠hh.objs.size:=Nat.ne_of_lt (Heap.lt_size hx)
 show wpAny _ _ (storeInOwnDict (.ref x) (.ref C) (.str name t) name v false) _ _ _
 refine wpAny_bind (wpAny_pure (wpAny_bind (wpAny_bind (wpAny_loadPart hx ?_))))
 refine wpAny_bind ((looks_clsIn X hc).at ?_)
 rw [if_neg (by rw [hhd];decide)]
 dsimp only
 rw [if_neg (by simp [typeHasDict])]
 refine wpAny_bind (wpAny_alloc' ?_)
 refine wpAny_bind (wpAny_update' hx₁ ?_)
 refine wpAny_pure ?_
 have hgd:((hh.push { cls:=.type "dict",data:=.dict #[] }).update x fun o=>{ cls:=o.cls,dict:=some hh.objs.size,data:=o.data,slots:=o.slots }).get? hh.objs.size
   = some { cls:=.type "dict",data:=.dict #[] }:=
  (Heap.get?_update_ne _ _ _ _ hxs.symm).trans (Heap.get?_push_at rfl rfl)
 have hnd:((hh.push { cls:=.type "dict",data:=.dict #[] }).update x fun o=>{ cls:=o.cls,dict:=some hh.objs.size,data:=o.data,slots:=o.slots }).Ns hh.objs.size (fun _=>none):=
  ⟨_,#[],_,hgd,rfl,fun e he=>absurd he (by simp),fun _=>rfl⟩
 show wpAny _ _ (storeInDict hh.objs.size (.str name t) name v) _ _ _
 unfold storeInDict newKeyGuard
 refine wpAny_bind (wpAny_pure (wpAny_bind (wpAny_nsSet1 (Heap.Ns1.of_empty hnd) fun h' hn' hs=>?_)))
 obtain ⟨oD,esD,epD,hoD,hdD,hcD⟩:=hn'.count (Within.cons name v Within.nil)
 refine wpAny_bind (wpAny_lookBehind hoD (by rw [hdD];exact pastItsLine_dict (Nat.le_trans hcD (by rw [List.length_cons,List.length_nil,sizeLine_eq];omega))) ?_)
 refine wpAny_pure (h h' _ (fun b o hb e=>(hs.2 b (Nat.ne_of_lt (Heap.lt_size e))).trans ((Heap.get?_update_ne _ _ _ _ hb).trans (Heap.get?_push_of_some _ e))) ?_ hn')
 exact (hs.2 x hxs).trans (Heap.get?_update_self _ hx₁ rfl)
end
end PySem.W
set_option Elab.async false
set_option linter.all false
set_option maxRecDepth 100000
namespace L2
open PySem PySem.Spec PyProof.Rows
structure XOut (K:PySem.W.Frag) (C:Addr) (bmB:List Value) (newId:String):Prop where
 exc:PySem.W.excOut K C bmB newId=true
theorem XOut.obj {K:PySem.W.Frag} {C:Addr} {bmB:List Value} {newId:String} {h:Heap} (c:XOut K C bmB newId) (X:K.In h):∃ bm N nm q bs hdct sn sub ab col dd k0 k1 k2 k3 k5,
  h.get? C=some (excClassObj nm q C N bs bm hdct sn sub ab col dd k0 k1 k2 k3 k5 newId)∧OwnTail h bmB bm∧∃ dd' cd sl,K.lookup C=some ⟨.type "type",dd',.cls cd,sl⟩∧cd.mro=.ref C :: bm:=by
 have q:=c.exc
 unfold PySem.W.excOut at q
 cases hl:K.lookup C with
 | none=>rw [hl] at q;cases q
 | some ob=>
  rw [hl] at q
  split at q
  ·rename_i dd cd sl e
   cases e
   split at q
   ·rename_i C' bm k0 k1 k2 k3 n k5 hm hs
    simp only [Bool.and_eq_true,beq_iff_eq,Bool.not_eq_true'] at q
    obtain ⟨⟨⟨⟨rfl,rfl⟩,hdel⟩,ht⟩,hok⟩:=q
    have ho:=X _ _ hl
    have hsl:sl=#[k0,k1,k2,k3,some (.builtin n),k5]:=Array.toList_inj.mp hs
    subst hsl
    obtain ⟨nm,bs,mro,ns,qn,hd,sn,sub,ab,col,del⟩:=cd
    dsimp only at hm hdel hok ho
    subst hm hdel
    exact ⟨bm,ns,nm,qn,bs,hd,sn,sub,ab,col,dd,k0,k1,k2,k3,k5,ho,PySem.W.tail_of_in X ht,dd,_,_,rfl,rfl⟩
   ·cases q
  ·cases q
def FrAt (ea:Addr) (cls:Value) (od:Option Addr) (h:Heap):Prop:=∃ o vs,h.get? ea=some o∧o.cls=cls∧o.dict=od∧o.data=.fields vs∧vs[1]?=some .none∧vs[2]?=some .none∧vs.size=6
abbrev xn (ea:Addr) (cls:Value) (od:Option Addr):HO:=.ext (FrAt ea cls od)
theorem frAt_stay {ea:Addr} {cls:Value} {od:Option Addr}:∀ h1 h2:Heap,FrAt ea cls od h1→(∀ o,h1.get? ea=some o→h2.get? ea=some o)→FrAt ea cls od h2:=
 fun h1 h2 ⟨o,ws,e1,e2,e3,e4,e5⟩ k=>⟨o,ws,k o e1,e2,e3,e4,e5⟩
section
variable {X:Cx} {o value:Expr} {f:Str} {pos pos':Pos} {ta tv:TE}
def sXSet (K:PySem.W.Frag) (ta tv:TE) (f:Str):TS:=fun D σ H=>tv σ H fun y H1=>ta σ H1 fun x H2=>∃ a C,x=.ref a∧H2 a=some (xn a (.ref C) none)∧PySem.W.XSt K C f ∧
 ∀ d,H2 d=none→D.nx σ (upd (upd H2 d (.xd [(f,y)])) a (xn a (.ref C) (some d)))
theorem ps_xset (ha:PE X o ta) (hv:PE X value tv) (hs:swapsWith value (some (.Attribute o f pos')) pos.line X.env=pure false):PS X (.Assign [.Attribute o f pos'] value pos) (sXSet X.K ta tv f):=by
 intro pins s σ H D I h
 refine plainObj_wpAny_Assign_Attribute (thn (hv pins s σ H _ I h) fun u s1 ⟨y,H1,I1,ry,q⟩=>thn (ha pins s1 σ H1 _ I1 q) fun ov s2 ⟨x,H2,I2,rx,a,C,ex,ea,c,q2⟩=>?_) hs
 subst ex
 obtain rfl:ov=Value.ref a:=rx
 obtain ⟨⟨ob,ws,e1,e2,e3,e4,e5⟩,_,_⟩:=(show ObjOk X.prog X.w H2 s2.heap a (xn a (.ref C) none) from I2.hok a _ ea)
 refine PySem.W.set_new I2.kIn c e1 e2 e3 e4 fun h' t' hk hx hn=>?_
 have hfr:H2 s2.heap.objs.size=none:=I2.hok.fresh (Nat.le_refl _)
 have hne:s2.heap.objs.size≠a:=Nat.ne_of_gt (Heap.lt_size e1)
 have oa:(h'.update a fun _=>ob).get? a=some ob:=Heap.get?_update_self _ hx (Obj.isFreed_of_fields e4)
 have oo:∀ b,b≠a→(h'.update a fun _=>ob).get? b=h'.get? b:=fun b hb=>Heap.get?_update_other _ _ (Ne.symm hb)
 have I3:Inv X pins σ (upd H2 s2.heap.objs.size (.xd [(f,y)])) { s2 with heap:=h'.update a fun _=>ob,toks:=t' }:=I2.laid (fun b u z=>by
   by_cases hb:b=a
   ·subst hb;rw [e1] at z;cases z;exact oa
   ·rw [oo b hb];exact hk b u hb z) (Nat.le_refl _) ⟨_,hn.at fun o z=>(oo _ hne).trans z,fun g=>?_⟩
 ·have I4:=I3.write (x:=a) (e:=a) (o:=xn a (.ref C) (some s2.heap.objs.size)) (h':=h') (t':=t') (by rw [upd_ne (Ne.symm hne),ea];exact True.intro) (.inl rfl) (fun b u hb z=>by rw [← oo b hb];exact z) ⟨_,hx⟩ ⟨⟨_,ws,hx,e2,rfl,e4,e5⟩,⟨_,hx⟩,frAt_stay⟩
  exact ⟨σ,_,I4,q2 _ hfr⟩
 ·show RelO (List.lookup g [(f,y)]) (if g=f then some u else none)
  by_cases z:g=f
  ·have hb:(g == f)=true:=beq_iff_eq.mpr z
   simp only [List.lookup,hb,if_pos z]
   exact ry
  ·have hb:(g == f)=false:=beq_eq_false_iff_ne.mpr z
   simp only [List.lookup,hb,if_neg z]
   exact True.intro
end
def sp_init (C:Addr) (fn:Str):Sp:=fun vs H Q _=>∃ a v,vs=[.ref a,v]∧H a=some (xn a (.ref C) none)∧∀ d,H d=none→Q .non (upd (upd H d (.xd [(fn,v)])) a (xn a (.ref C) (some d)))
def delH (H:Hp) (e:Addr):Hp:=fun b=>if b=e then none else H b
theorem delH_ne {H:Hp} {e b:Addr} (h:b≠e):delH H e b=H b:=by unfold delH;rw [if_neg h]
theorem delH_same {H:Hp} {e:Addr}:delH H e e=none:=by unfold delH;rw [if_pos rfl]
def MakesI (X:Cx) (E:XK):Prop:=∀ (pins:List (Addr × Obj)) (σ:St) (H2:Hp) (s2:Shared) (hm:Heap) (H3:Hp) (s3:Shared) (e C:Addr) (od:Option Addr),Inv X pins σ H2 s2→Inv X pins σ H3 s3→s2.heap.get? e=none →
 (∀ b o,s2.heap.get? b=some o→hm.get? b=some o)→Un (frs X.stack) [] (upd H2 e (xn e (.ref C) none)) H3 hm s3.heap→s3.os=s2.os→H3 e=some (xn e (.ref C) od)→E (.ref C) od (delH H3 e)→X.xe (.ref e) s3
section
variable {P:Program} {w:World} {K:PySem.W.Frag} {mg:Str→Option Value} {base:Heap} {N:List Str} {qual:Str} {scope:Scope} {f:Addr} {cd:Value} {A:Around} {outer:List Env} {s:Shared} {H:Hp} {E E1:XK}
theorem makesI_up (hE:∀ c d H',E1 c d H'→E c d H'):MakesI (cxOf (CX1 P w) P w K mg base N qual scope f cd A outer s H E) E1:=by
 intro pins σ H2 s2 hm H3 s3 e C od I2 I3 new keep un os3 he3 q
 obtain ⟨⟨oe,vs,g1,g2,g3,g4,g5⟩,_,_⟩:=(show ObjOk P w H3 s3.heap e (xn e (.ref C) od) from I3.hok e _ he3)
 have ne:∀ b o,s2.heap.get? b=some o→b≠e:=fun b o z y=>by rw [y,new] at z;cases z
 have h2e:H2 e=none:=by
  cases z:H2 e with
  | none=>rfl
  | some o=>
   obtain ⟨ob,hob⟩:=(I2.hok e o z).there
   rw [new] at hob
   cases hob
 have hin:∀ env∈(cxOf (CX1 P w) P w K mg base N qual scope f cd A outer s H E).stack,∀ b,env.frame=some b→b∈e :: frs (cxOf (CX1 P w) P w K mg base N qual scope f cd A outer s H E).stack:=fun env he b hb=>.tail _ (List.mem_filterMap.mpr ⟨env,he,hb⟩)
 have hff:=PySem.W.funFrames_hide I3.stack hin
 have u0:∀ b,b≠e→H2 b=none→upd H2 e (xn e (.ref C) none) b=none:=fun b hb n=>by rw [upd_ne hb];exact n
 have fly0:Fly0 P w (cxOf (CX1 P w) P w K mg base N qual scope f cd A outer s H E).stack H2 s2 (PySem.W.hideAll s3.heap (e :: frs (cxOf (CX1 P w) P w K mg base N qual scope f cd A outer s H E).stack)) (delH H3 e) s3:=by
  refine ⟨fun b o z=>PySem.W.of_hideAll _ z,hff,⟨fun b o z n hb _=>un.keep b o (keep b o z) (u0 b (ne b o z) n) hb (by simp),fun b o z n hb _=>un.slot b o (keep b o z) (u0 b (ne b o z) n) hb (by simp),fun b o z n _=>?_,fun b o z _=>un.there b o (keep b o z) (by simp),fun b xs z=>?_,fun b o y z=>?_,fun b ps z=>?_⟩,fun b o z=>?_,fun b o z=>?_,fun b o z hb=>?_,os3,I3.bare⟩
  ·rw [delH_ne (ne b o z)]
   exact un.free b o (keep b o z) (u0 b (ne b o z) n) (by simp)
  ·have hb:b≠e:=ne_of_none z h2e
   rw [delH_ne hb]
   exact un.tups b xs (by rw [upd_ne hb];exact z)
  ·have hb:b≠e:=ne_of_none z h2e
   rw [delH_ne hb]
   exact un.frzs b o y (by rw [upd_ne hb];exact z)
  ·have hb:b≠e:=ne_of_none z h2e
   rw [delH_ne hb]
   exact un.tbls b ps (by rw [upd_ne hb];exact z)
  ·have hb:b≠e:=fun y=>by rw [y,delH_same] at z;cases z
   rw [delH_ne hb] at z
   exact (I3.hok b o z).stay (fun _ _ _ y=>y) (fun c y=>by rw [delH_ne (fun x=>by rw [x,he3] at y;cases y)];exact y) fun c xs y=>by rw [delH_ne (fun x=>by rw [x,he3] at y;cases y)];exact y
  ·have hb:b≠e:=fun y=>by rw [y,delH_same] at z;cases z
   rw [delH_ne hb] at z
   obtain ⟨ob,hob⟩:=(I3.hok b o z).there
   refine ⟨ob,PySem.W.hideAll_get _ hob fun hm=>?_⟩
   rcases List.mem_cons.mp hm with y | y
   ·exact hb y
   ·rw [I3.stkFree b y] at z;cases z
  ·obtain ⟨o',z'⟩:=un.there b o (keep b o z) (by simp)
   refine ⟨o',PySem.W.hideAll_get _ z' fun hm=>?_⟩
   rcases List.mem_cons.mp hm with y | y
   ·exact ne b o z y
   ·exact hb y
 have newB:(PySem.W.hideAll s3.heap (e :: frs (cxOf (CX1 P w) P w K mg base N qual scope f cd A outer s H E).stack)).get? e=none:=PySem.W.hideAll_none _ (List.mem_cons_self ..)
 refine leaveD0 (cp:=fun v=>v=.none) (s:=s3) I3.ok.frames fly0.ff rfl g1 fly0.st newB g4 g5.1 ⟨_,g5.2.1,rfl⟩ fun h' fl2 up=>?_
 rw [g2,g3] at fl2
 exact ⟨e,.ref C,od,_,delH H3 e,rfl,Fly0.up I2 rfl rfl rfl rfl rfl fly0 fl2 up,delH_same,hE _ _ _ q⟩
end
structure XI (P:Program) (w:World) (K:PySem.W.Frag) (mg:Str→Option Value) (base:Heap) (k:Nat) (C:Addr) (fn:Str):Prop where
 ex:∃ (bm bmN:List Value) (newId Bn inN B nid initId:String) (fI:Addr) (fd:FuncData) (ps:List Str),XOut K C bm newId∧ExcBaseFacts Bn newId inN bmN∧bm.contains (.type Bn)=true∧ExcBaseFacts B nid initId bm ∧
  PySem.W.findIn K (.ref C) "__init__" = some (some (.ref fI))∧PySem.W.typeIn K (.ref fI)=some (.type "function")∧FnOk P w K mg base CX0 k fI fd ps (sp_init C fn)∧Binds K fd ps []
section
variable {X:Cx} {x:Str} {np cpos pos:Pos} {e₀:Expr} {t:TA} {C:Addr} {fn:Str} {k:Nat} {E:XK}
def tRaiseI (C:Addr) (fn:Str) (E:XK) (t:TA):TS:=fun _ σ H=>t σ H fun vs H1=>vs.length≤sizeLine∧∃ v,vs=[v]∧∀ d,H1 d=none→E (.ref C) (some d) (upd H1 d (.xd [(fn,v)]))
theorem ps_raiseI (c:XI X.prog X.w X.K X.mg X.base k C fn) (hr:Room (k + 1) X.A) (hc:X.calm=true) (hg:Gl X x) (hm:X.mg x=some (.ref C)) (hx:MakesI X E) (ha:PA X [e₀] t)
  (hd:(x == ("__debug__":Str))=false:=by decide +kernel) (he:starEach [e₀] X.env=(false,eval e₀ X.env) :: starEach [] X.env:=by rfl) (hpl:(backTo cpos (starEach [] X.env)).any (·.1)=false:=by rfl) :
  PS X (.Raise (some (.Call (.Name x np) [e₀] [] cpos)) none pos) (tRaiseI C fn E t):=by
 obtain ⟨bmB,bmN,newId,Bn,inN,B,nid,initId,fI,fd,ps,c1,c2,c3,c4,hi,hf,F,hb⟩:=c.ex
 intro pins s σ H D I h
 obtain ⟨tl,N,nm,q,bs,hdct,sn,sub,ab,col,dd,k0,k1,k2,k3,k5,hC,T,_⟩:=c1.obj I.mod.kin
 refine Raise_call_initU (K:=X.K) (fI:=fI) (C:=C) (nm:=nm) (q:=q) (N:=N) (bs:=bs) (bm:=tl) (hdct:=hdct) (sn:=sn) (sub:=sub) (ab:=ab) (col:=col) (dd:=dd) (k0:=k0) (k1:=k1) (k2:=k2) (k3:=k3) (k5:=k5)
  c2 c3 c4 (T.hasType c4.hasBase) (I.ok.hd hc) (by rw [he];show (false || (backTo cpos (starEach [] X.env)).any (·.1))=false;rw [hpl];rfl) hi hf (ld_glob I hg hm ⟨rfl,?_⟩ hd)
 rw [he]
 have ha':=ha cpos pins s σ H _ I h
 rw [he] at ha'
 refine Calls.evalArgs_plain (wpAny_mono ha' (fun us s₂ ⟨vs,H1,I1,r1,z,v,ev,q1⟩=>⟨rfl,by rw [← r1.length];exact z,I1.bk _ _ hC,I1.kIn,T.keeps I1.bk,fun h' e hx'=>?_⟩) fun _ _ y=>y)
 subst ev
 obtain ⟨u,rfl,ru⟩:=r1.one
 obtain ⟨t0,he0,ht0,htt⟩:=hx'.there
 have ne:∀ b o,s₂.heap.get? b=some o→b≠e:=fun b o z y=>by rw [y,hx'.new] at z;cases z
 have h1e:H1 e=none:=by
  cases z:H1 e with
  | none=>rfl
  | some o=>
   obtain ⟨ob,hob⟩:=(I1.hok e o z).there
   rw [hx'.new] at hob
   cases hob
 have Im:Inv X pins σ (upd H1 e (xn e (.ref C) none)) { s₂ with heap:=h' }:=by
  refine I1.call' (s':={ s₂ with heap:=h' }) (ch:=[]) rfl ⟨fun b o z _ _ _=>hx'.keeps b o z,fun b o z _ _ _=>⟨o.slots,hx'.keeps b o z⟩,fun b o z n _=>by rw [upd_ne (ne b o z)];exact n,fun b o z _=>⟨o,hx'.keeps b o z⟩,fun b xs z=>by rw [upd_ne (ne_of_none z h1e)];exact z,fun b o y z=>by rw [upd_ne (ne_of_none z h1e)];exact z,fun b ps z=>⟨#[],by rw [upd_ne (ne_of_none z h1e),z];simp⟩⟩ (fun b o z=>?_) I1.bare (fun b z=>absurd z (by simp))
  by_cases hb:b=e
  ·subst hb
   rw [upd_same] at z
   cases z
   exact ⟨⟨_,_,he0,rfl,rfl,rfl,rfl,rfl,rfl⟩,⟨_,he0⟩,frAt_stay⟩
  ·rw [upd_ne hb] at z
   exact (I1.hok b o z).stay (fun c u _ y=>hx'.keeps c u y) (fun c y=>by rw [upd_ne (ne_of_none y h1e)];exact y) fun c xs y=>by rw [upd_ne (ne_of_none y h1e)];exact y
 have hsp:sp_init C fn [.ref e,v] (upd H1 e (xn e (.ref C) none)) (fun r H3=>r=.non∧∃ d,H3 e=some (xn e (.ref C) (some d))∧E (.ref C) (some d) (delH H3 e)) (fun _ _ _=>False):=by
  refine ⟨e,v,rfl,upd_same,fun d hd'=>⟨rfl,d,upd_same,?_⟩⟩
  have hde:d≠e:=fun y=>by rw [y,upd_same] at hd';cases hd'
  rw [upd_ne hde] at hd'
  have ee:delH (upd (upd (upd H1 e (xn e (.ref C) none)) d (.xd [(fn,v)])) e (xn e (.ref C) (some d))) e=upd H1 d (.xd [(fn,v)]):=by
   funext b
   by_cases hb:b=e
   ·rw [hb,delH_same,upd_ne (Ne.symm hde)];exact h1e.symm
   ·rw [delH_ne hb,upd_ne hb]
    by_cases hbd:b=d
    ·rw [hbd,upd_same,upd_same]
    ·rw [upd_ne hbd,upd_ne hb,upd_ne hbd]
  rw [ee]
  exact q1 d hd'
 have hl:([Value.ref e,u] ++ []).length=ps.length:=(F.len _ _ _ _ hsp:[V.ref e,v].length=ps.length)
 have r2:Vals [V.ref e,v] [Value.ref e,u]:=.cons rfl (.cons ru .nil)
 refine wpAny_call (codeAny_mono (F.run _ X.stack _ _ ⟨[.ref e,u],[]⟩ [.ref e,u] _ _ _ (hr.make C [u] []) (Im.env0.make C [u] []) (hb _ [Value.ref e,u] Im.kIn hl) r2 hsp) fun r s' hq'=>?_)
 cases r with
 | error ev=>exact False.elim hq'
 | ok fl=>
  cases fl with
  | ret u'=>
   obtain ⟨v',H3,os3,bare3,un3,hok3,rv,ev,d,he3,qE⟩:=hq'
   subst ev
   have I3:=Im.call' (ch:=[]) os3 un3 hok3 bare3 (fun b z=>absurd z (by simp))
   obtain ⟨⟨oe,ws,g1,g2,g3,g4,g5⟩,_,_⟩:=(show ObjOk X.prog X.w H3 s'.heap e (xn e (.ref C) (some d)) from I3.hok e _ he3)
   exact ⟨rv,oe,ws,I3.bk _ _ hC,g1,g2,g4,g5.1,hx pins σ H1 s₂ h' H3 s' e C (some d) I1 I3 hx'.new hx'.keeps un3 os3 he3 qE⟩
  | next=>exact False.elim hq'
  | brk=>exact False.elim hq'
  | cont=>exact False.elim hq'
end
section
variable {X:Cx} {P:Program} {w:World} {e tg:Expr} {tx:TX} {g:TG} {i:Nat} {n x:Str} {D:Addr} {bmD:List Value} {nD:String} {b₀:Stmt} {suite:List Stmt} {apos pos hpos np:Pos} {ts:Addr→TS}
def tTryAsO (K:PySem.W.Frag) (D:Addr) (tx:TX) (g:TG) (i:Nat) (ts:Addr→TS):TS:=fun De σ H=>
 tx σ H (fun v H1=>g v σ H1 De.nx) (fun cls od H'=>∃ C bm nid,cls=.ref C∧XOut K C bm nid∧Under K C D∧∀ ea,H' ea=none →
  ts ea { nx:=fun σ2 H2=>De.nx (σ2.set i none) H2,rt:=De.rt,bk:=fun σ2 H2=>De.bk (σ2.set i none) H2,ct:=fun σ2 H2=>De.ct (σ2.set i none) H2 } (σ.set i (some (.ref ea))) (upd H' ea (xo ea (.ref C) od)))
theorem ps_try_asO {cp:Value→Prop} (hN:X.N.Nodup) (hst:X.stack=X.env :: X.outer) (hfr:X.env.frame=some X.env.locals) (he:PX (CXp cp X.prog X.w) X e tx) (hg:PG X.nox tg g) (hi:X.N[i]?=some n) (hk:X.env.kindOf n=some .local) (hgl:Gl X x) (hm:X.mg x=some (.ref D)) (cD:XCls X.K D bmD nD)
  (hbase:bmD.contains (.type "BaseException")=true) (hs:∀ ea,PSs (X.held ea) (b₀ :: suite) (ts ea))
  (hd:(x == ("__debug__":Str))=false:=by decide +kernel) (hsw:swapsWithSole [tg] e apos.line X.env=pure false:=by rfl) (hw:swappedStores [tg] e X.env=pure none:=by rfl)
  (h1:(assignEach [tg] X.env).map (·.2)=[assign tg X.env]:=by rfl) :
  PS X (.Try [.Assign [tg] e apos] [.ExceptHandler (some (.Name x np)) (some n) (b₀ :: suite) hpos] [] [] pos) (tTryAsO X.K D tx g i ts):=by
 intro pins s σ H De I h
 refine wpAny_Try_except ?_
 refine wpAny_execs_cons (wpAny_Assign_stores ?_ hsw hw)
 refine thn (he pins s σ H _ _ _ I h ?_) fun v s1 ⟨y,H1,I1,r1,q1⟩=>?_
 ·rintro H1 s1 ev s' I1 ⟨ea,cls,od,B,H',rfl,fly,hn,C,bm,nid,rfl,cC,un,hsu⟩
  have hfl:FlyC cp B (X.env :: X.outer) ea (.ref C) od .none s'.heap:=by rw [← hst];exact fly.fl
  refine noteD (by rw [I.ok.frames,hst]) hfr hfl fun h4 held4 up4=>?_
  refine flightD held4 fun h5 fl5 up5=>?_
  have J5:=I1.caught fly.toFly0 (by rw [hst];exact fl5) (up4.trans up5) hn
  refine wpAny_handleBy_cons (codeAny_handlers_test ?_) (by intro q;cases q)
  refine ld_glob (J5.held ea) hgl hm ?_ hd
  obtain ⟨tl,N,nm,q,bs,hdct,sn,sub,ab,col,dd,k0,k1,k2,k3,k5,hC,T,dd1,cd1,sl1,hlk,hmro⟩:=cC.obj J5.kIn
  obtain ⟨tl',N',nm',q',bs',hdct',sn',sub',ab',col',dd',k0',k1',k2',k3',k5',mN',hD,_,_,TD,_⟩:=cD.obj J5.kIn
  obtain ⟨dd2,cd2,sl2,hlk2,hsub⟩:=un
  rw [hlk] at hlk2
  cases hlk2
  rw [hmro] at hsub
  obtain ⟨ob,_,hob,hobc,_⟩:=fl5.there
  refine excMatches_under hC hD hob hobc (TD.hasType hbase) hsub (codeAny_handlers_suite_as ?_)
  refine flightD fl5 fun h6 fl6 up6=>?_
  have J6:=I1.caught fly.toFly0 (by rw [hst];exact fl6) ((up4.trans up5).trans up6) hn
  refine store_ok (v:=.ref ea) J6 hN hi (.inl hk) rfl (fun s7 J7=>?_) (.inr hk)
  refine wpAny_mono (hs ea pins s7 _ _ _ (J7.held ea) (hsu ea hn)) (fun fl s8 q8=>?_) fun _ _ f=>f.elim
  cases fl with
  | next=>obtain ⟨σ',H2,I8,q⟩:=q8;exact unbind_ok (v:=.non) (I8.unheld I.ok.hd) hN hi hk fun s9 I9=>⟨_,_,I9,q⟩
  | brk=>obtain ⟨σ',H2,I8,q⟩:=q8;exact unbind_ok (v:=.non) (I8.unheld I.ok.hd) hN hi hk fun s9 I9=>⟨_,_,I9,q⟩
  | cont=>obtain ⟨σ',H2,I8,q⟩:=q8;exact unbind_ok (v:=.non) (I8.unheld I.ok.hd) hN hi hk fun s9 I9=>⟨_,_,I9,q⟩
  | ret u=>obtain ⟨v,σ',H2,I8,rv,q⟩:=q8;exact unbind_ok (v:=.non) (I8.unheld I.ok.hd) hN hi hk fun s9 I9=>⟨v,_,_,I9,rv,q⟩
 ·rw [h1]
  exact wpAny_mono (hg pins s1 σ H1 y v _ (I1.wish _) r1 q1) (fun _ s2 ⟨σ',H',I',q'⟩=>wpAny_execs_nil (wpAny_execs_nil ⟨σ',H',I'.unwish,q'⟩)) fun _ _ f=>f.elim
end
def XRd (H:Hp) (a C:Addr):Prop:=H a=some (xo a (.ref C) none)∨∃ d fs,H a=some (xo a (.ref C) (some d))∧H d=some (.xd fs)
section
variable {X:Cx} {pins:List (Addr × Obj)} {σ:St} {H:Hp} {s:Shared}
theorem XRd.inst {a C:Addr} (I:Inv X pins σ H s) (r:XRd H a C):∃ odo ox,PySem.W.InstAt s.heap a ox C odo:=by
 rcases r with r | ⟨d,fs,r,rd⟩
 ·obtain ⟨hx,_⟩:=(show ObjOk X.prog X.w H s.heap a (xo a (.ref C) none) from I.hok a _ r)
  obtain ⟨ox,z⟩:=exc_inst hx
  exact ⟨none,ox,z⟩
 ·obtain ⟨⟨o,vs,e1,e2,e3,e4⟩,_⟩:=(show ObjOk X.prog X.w H s.heap a (xo a (.ref C) (some d)) from I.hok a _ r)
  obtain ⟨mA,n,_⟩:=(show ObjOk X.prog X.w H s.heap d (.xd fs) from I.hok d _ rd)
  obtain ⟨od,ho,_⟩:=lookIn_ns n
  exact ⟨some od,o,e1,e2,by unfold PySem.W.notCls;rw [e4],by rw [e3];exact ho⟩
def rIsiY (K:PySem.W.Frag):List V→Hp→VK→Prop:=fun xs H Q=>rIsi K xs H Q ∨
 (∃ a C c b,xs=[.ref a,c]∧isClsV c=true∧XRd H a C∧PySem.W.XTy K C∧PySem.W.kitOne K (.ref C) (clsV c)=some b∧Q (.bl b) H) ∨
 (∃ a C tp cs b,xs=[.ref a,.ref tp]∧H tp=some (.tup cs)∧(∀ c∈cs,isClsV c=true)∧XRd H a C∧PySem.W.XTy K C∧PySem.W.kitAny K (.ref C) (cs.map clsV)=some b∧Q (.bl b) H)
theorem call_isinstanceY:CallR X (.builtin "isinstance") (rIsiY X.K):=by
 intro pins s σ H xs us Q I r h
 rcases h with h | ⟨a,C,c,b,rfl,hc,ha,ty,e,q⟩ | ⟨a,C,tp,cs,b,rfl,ht,hc,ha,ty,e,q⟩
 ·exact call_isinstance pins s σ H xs us Q I r h
 ·obtain ⟨u,v,rfl,ru,rv⟩:=r.two
  cases ru
  rw [clsV_of rv hc]
  obtain ⟨odo,hx⟩:=ha.inst I
  exact PySem.W.kia_one (PySem.W.kitx_exc (odo:=odo) ty) I.kIn hx e (fun z=>nomatch z) fun tk=>⟨.bl b,H,I.tok tk,rfl,q⟩
 ·obtain ⟨u,v,rfl,ru,rv⟩:=r.two
  cases ru
  cases rv
  obtain ⟨odo,hx⟩:=ha.inst I
  obtain ⟨_,its,rvs,o,h1,h2,n,h3⟩:=(show ObjOk X.prog X.w H s.heap tp (.tup cs) from I.hok tp _ ht)
  obtain ⟨oc,odd,odt,osl⟩:=o
  dsimp only at h2 h3
  subst h2 h3
  have ei:=vals_cls rvs hc
  subst ei
  exact PySem.W.kia_tup (PySem.W.kitx_exc (odo:=odo) ty) I.kIn hx h1 e (fun z=>nomatch z) fun tk=>⟨.bl b,H,I.tok tk,rfl,q⟩
end
end L2
namespace PySem.W
open PySem PySem.Spec PySem.Calls PyProof.Rows
section
variable {prog:Program} {w:World} {A:Around} {E:Value→Shared→Prop} {s:Shared} {K:Frag} {x D:Addr} {ox:Obj} {odo:Option Obj} {name:Str}
theorem exc_value {v:Value} {Q:Value→Shared→Prop} (X:K.In s.heap) (I:InstAt s.heap x ox D odo) (c:XTy K D) (hf:findObj K D odo name=some (.value v)) (hv:handedIn v=true) (h:Q v { s with toks:=s.toks + 1 }) :
  wpAny (model prog w) A (getAttr (.ref x) name true) Q E s:=by
 obtain ⟨hh,gg,d,t,os⟩:=s
 have L0:=I.type (M:=model prog w)
 have L1:=looks_findIn (M:=model prog w) X c.ga
 have L2:=looks_findIn (M:=model prog w) X c.gh
 have L3:=looks_find (M:=model prog w) X I hf
 unfold getAttr getAttrBy
 refine wpAny_bind (wpAny_mkText (wpAny_holding (wpAny_bind (L0.at (wpAny_bind (L1.at ?_))))))
 show wpAny _ _ (getAttrByItsOwn _ _ _ _ _ _) _ _ _
 unfold getAttrByItsOwn hookBefore
 refine wpAny_bind (L2.at ?_)
 refine wpAny_bind (wpAny_attempt (wpAny_holding ?_))
 unfold callGetattribute boundAndCalled
 show wpAny _ _ (bindSpecial _ _ >>= _) _ _ _
 rw [ga_bind]
 refine wpAny_bind (wpAny_pure ?_)
 refine wpAny_call (codeAny_call_builtin F.excAttr_ValueError.ga.plain F.entry_bexc_ga (ga_check X I c.mb ?_))
 have e1:slotArgs "__getattribute__" 1 ⟨[.ref x,.str name t],[]⟩=pure (.ref x,[.str name t]):=rfl
 unfold Builtin.«object.__getattribute__»
 show wpAny _ _ (slotArgs "__getattribute__" 1 ⟨[.ref x,.str name t],[]⟩ >>= _) _ _ _
 rw [e1]
 refine wpAny_bind (wpAny_pure ?_)
 refine wpAny_bind (wpAny_pure (wpAny_bind (L0.at (wpAny_bind (L3.at ?_)))))
 refine wpAny_pure ?_
 exact handed_on hv h
end
end PySem.W
namespace L2
open PySem PySem.Spec PyProof.Rows
section
variable {X:Cx} {e:Expr} {ta:TE} {f:Str} {pos:Pos}
def tXFld (K:PySem.W.Frag) (ta:TE) (f:Str):TE:=fun σ H Q=>ta σ H fun x H1=>∃ a C d fs v,x=.ref a∧H1 a=some (xo a (.ref C) (some d))∧H1 d=some (.xd fs)∧fs.lookup f=some v∧PySem.W.XTy K C∧PySem.W.hasDictIn K C=true∧NoAttr K C f∧Q v H1
theorem pe_xfld (he:PE X e ta) (hb:attributeBase e f X.env (eval e X.env)=eval e X.env):PE X (.Attribute e f pos) (tXFld X.K ta f):=by
 intro pins s σ H Q I h
 refine attr_of hb (thn (he pins s σ H _ I h) fun u s1 ⟨x,H1,I1,rx,a,C,d,fs,v,ex,ea,ed,l,c,hd,n,q⟩=>?_)
 subst ex
 obtain rfl:u=Value.ref a:=rx
 obtain ⟨⟨o,vs,e1,e2,e3,e4⟩,_⟩:=(show ObjOk X.prog X.w H1 s1.heap a (xo a (.ref C) (some d)) from I1.hok a _ ea)
 obtain ⟨mA,ns,rel⟩:=(show ObjOk X.prog X.w H1 s1.heap d (.xd fs) from I1.hok d _ ed)
 obtain ⟨od,ho,hl⟩:=lookIn_ns ns
 obtain ⟨u,hu,ru⟩:=RelO.some_of (v:=v) (o:=mA f) (by rw [← l];exact rel f)
 have J:PySem.W.InstAt s1.heap a o C (some od):=⟨e1,e2,by unfold PySem.W.notCls;rw [e4],by rw [e3];exact ho⟩
 exact PySem.W.exc_value I1.kIn J c (PySem.W.findObj_own hd n rfl (by rw [hl,hu])) (handed_of ru) ⟨v,H1,I1.tok _,ru,q⟩
end
end L2
set_option Elab.async false
set_option linter.all false
set_option maxRecDepth 100000
namespace SpM
open PySem
def glue (c:Nat):List (List Nat)→List Nat
 | []=>[]
 | [p]=>p
 | p :: q :: r=>p ++ c :: glue c (q :: r)
def step (c:Nat) (rows:List (List Nat)) (d:Nat):List (List Nat):=if d=c then rows ++ [[]] else rows.dropLast ++ [rows.getLastD [] ++ [d]]
def parts (c:Nat) (x:List Nat):List (List Nat):=x.foldl (step c) [[]]
theorem glue_snoc (c:Nat):∀ {rows:List (List Nat)},rows≠[]→glue c (rows ++ [[]])=glue c rows ++ [c]
 | [p],_=>by simp [glue]
 | p :: q :: r,_=>by
  have:=glue_snoc c (rows:=q :: r) (by simp)
  show p ++ c :: glue c ((q :: r) ++ [[]])=(p ++ c :: glue c (q :: r)) ++ [c]
  rw [this];simp
theorem glue_last (c d:Nat):∀ {rows:List (List Nat)},rows≠[]→glue c (rows.dropLast ++ [rows.getLastD [] ++ [d]])=glue c rows ++ [d]
 | [p],_=>by simp [glue]
 | p :: q :: r,_=>by
  have:=glue_last c d (rows:=q :: r) (by simp)
  have e:(p :: q :: r).dropLast ++ [(p :: q :: r).getLastD [] ++ [d]]=p :: ((q :: r).dropLast ++ [(q :: r).getLastD [] ++ [d]]):=by simp
  rw [e]
  obtain ⟨u,v,e2⟩:∃ u v,(q :: r).dropLast ++ [(q :: r).getLastD [] ++ [d]]=u :: v:=by
   cases h:(q :: r).dropLast with
   | nil=>exact ⟨_,[],rfl⟩
   | cons u v=>exact ⟨u,v ++ _,rfl⟩
  rw [e2] at this ⊢
  show p ++ c :: glue c (u :: v)=(p ++ c :: glue c (q :: r)) ++ [d]
  rw [this];simp
theorem fold_spec (c:Nat):∀ (x:List Nat) (rows:List (List Nat)),rows≠[]→(∀ p∈rows,c ∉ p)→x.foldl (step c) rows≠[]∧(∀ p∈x.foldl (step c) rows,c ∉ p)∧glue c (x.foldl (step c) rows)=glue c rows ++ x
 | [],rows,h,hf=>⟨h,hf,by simp⟩
 | d :: x,rows,h,hf=>by
  have h1:step c rows d≠[]:=by unfold step;split <;> simp
  have h2:∀ p∈step c rows d,c ∉ p:=by
   intro p hp
   unfold step at hp
   split at hp
   ·rcases List.mem_append.mp hp with q | q
    ·exact hf p q
    ·rw [List.mem_singleton.mp q];simp
   ·rename_i hd
    rcases List.mem_append.mp hp with q | q
    ·exact hf p (List.dropLast_subset _ q)
    ·rw [List.mem_singleton.mp q]
     intro z
     rcases List.mem_append.mp z with z | z
     ·have hl:rows.getLastD []∈rows:=by
       rw [List.getLastD_eq_getLast?,List.getLast?_eq_some_getLast h]
       exact List.getLast_mem h
      exact hf _ hl z
     ·exact hd (List.mem_singleton.mp z).symm
  have h3:glue c (step c rows d)=glue c rows ++ [d]:=by
   unfold step
   split
   ·rename_i e;rw [e];exact glue_snoc c h
   ·exact glue_last c d h
  obtain ⟨g1,g2,g3⟩:=fold_spec c x (step c rows d) h1 h2
  exact ⟨g1,g2,by rw [List.foldl_cons,g3,h3];simp⟩
theorem app_inj {c:Nat}:∀ {p q a b:List Nat},c ∉ p→c ∉ q→p ++ c :: a=q ++ c :: b→p=q∧a=b
 | [],[],a,b,_,_,e=>⟨rfl,by simpa using e⟩
 | [],y :: q,a,b,_,hq,e=>by simp at e;exact absurd e.1 (fun z=>hq (by simp [z]))
 | x :: p,[],a,b,hp,_,e=>by simp at e;exact absurd e.1.symm (fun z=>hp (by simp [z]))
 | x :: p,y :: q,a,b,hp,hq,e=>by
  simp at e
  obtain ⟨e1,e2⟩:=app_inj (p:=p) (q:=q) (fun z=>hp (by simp [z])) (fun z=>hq (by simp [z])) e.2
  exact ⟨by rw [e.1,e1],e2⟩
theorem glue_inj (c:Nat):∀ {rows rows':List (List Nat)},rows≠[]→rows'≠[]→(∀ p∈rows,c ∉ p)→(∀ p∈rows',c ∉ p)→glue c rows=glue c rows'→rows=rows'
 | [p],[q],_,_,_,_,e=>by simpa [glue] using e
 | [p],q :: q' :: r,_,_,hf,_,e=>by
  have:c∈p:=by rw [show p=q ++ c :: glue c (q' :: r) from e];simp
  exact absurd this (hf p (by simp))
 | p :: p' :: r,[q],_,_,_,hf,e=>by
  have:c∈q:=by rw [show q=p ++ c :: glue c (p' :: r) from e.symm];simp
  exact absurd this (hf q (by simp))
 | p :: p' :: r,q :: q' :: r',_,_,h1,h2,e=>by
  obtain ⟨e1,e2⟩:=app_inj (h1 p (by simp)) (h2 q (by simp)) (show p ++ c :: glue c (p' :: r)=q ++ c :: glue c (q' :: r') from e)
  have:=glue_inj c (rows:=p' :: r) (rows':=q' :: r') (by simp) (by simp) (fun z hz=>h1 z (by simp [hz])) (fun z hz=>h2 z (by simp [hz])) e2
  rw [e1,this]
theorem join_glue (c:Nat):∀ (ys:List Str),(Builtin.Str.glued ⟨#[c]⟩ ys).cps.toList=glue c (ys.map fun y=>y.cps.toList)
 | []=>rfl
 | y :: ys=>by
  have key:∀ (zs:List Str) (a:Array Nat),(zs.foldl (fun acc (p:Str)=>acc ++ (⟨#[c]⟩:Str).cps ++ p.cps) a).toList=glue c (a.toList :: zs.map fun y=>y.cps.toList):=by
   intro zs
   induction zs with
   | nil=>intro a;rfl
   | cons z zs ih=>
    intro a
    rw [List.foldl_cons,ih]
    show glue c ((a ++ #[c] ++ z.cps).toList :: _)=a.toList ++ c :: glue c (z.cps.toList :: _)
    have e:(a ++ #[c] ++ z.cps).toList=a.toList ++ c :: z.cps.toList:=by simp
    rw [e]
    cases zs with
    | nil=>simp [glue]
    | cons w ws=>simp [glue]
  exact key ys y.cps
theorem split_parts (x:Str) (c:Nat):(Txt.split x ⟨#[c]⟩).map (fun y=>y.cps.toList)=parts c x.cps.toList:=by
 obtain ⟨g1,g2,g3⟩:=fold_spec c x.cps.toList [[]] (by simp) (by simp)
 have hne:(Txt.split x ⟨#[c]⟩).map (fun y=>y.cps.toList)≠[]:=by
  intro h
  have h0:Txt.split x ⟨#[c]⟩=[]:=by simpa using h
  unfold Txt.split at h0
  split at h0
  ·cases h0
  ·split at h0
   ·cases h0
   ·simp [Builtin.Str.partsBetween] at h0
 refine glue_inj c hne g1 (fun p hp=>?_) g2 ?_
 ·obtain ⟨y,hy,rfl⟩:=List.mem_map.mp hp
  exact StrLaws.split_free x c y hy
 ·have h:=StrLaws.join_split x ⟨#[c]⟩
  have e:glue c ((Txt.split x ⟨#[c]⟩).map fun y=>y.cps.toList)=x.cps.toList:=by
   rw [← join_glue,StrLaws.glued_eq_join,h]
  rw [e]
  unfold parts
  rw [g3]
  simp [glue]
end SpM
set_option Elab.async false
set_option linter.all false
namespace SpM
theorem step_len (c:Nat) {n:Nat} {rows:List (List Nat)} (h:∀ r∈rows,r.length≤n) (d:Nat):∀ r∈step c rows d,r.length≤n + 1:=by
 intro r hr
 unfold step at hr
 split at hr
 ·rcases List.mem_append.mp hr with q | q
  ·exact Nat.le_succ_of_le (h r q)
  ·rw [List.mem_singleton.mp q];simp
 ·rcases List.mem_append.mp hr with q | q
  ·exact Nat.le_succ_of_le (h r (List.dropLast_subset _ q))
  ·rw [List.mem_singleton.mp q,List.length_append]
   have:(rows.getLastD []).length≤n:=by
    by_cases e:rows=[]
    ·rw [e];simp
    ·have hl:rows.getLastD []∈rows:=by
      rw [List.getLastD_eq_getLast?,List.getLast?_eq_some_getLast e]
      exact List.getLast_mem e
     exact h _ hl
   simpa using this
theorem step_many (c:Nat) (rows:List (List Nat)) (d:Nat):(step c rows d).length≤rows.length + 1:=by
 unfold step
 split
 ·simp
 ·rw [List.length_append,List.length_dropLast];simp
theorem fold_len (c:Nat):∀ (x:List Nat) (rows:List (List Nat)) (n:Nat),(∀ r∈rows,r.length≤n)→(∀ r∈x.foldl (step c) rows,r.length≤n + x.length)∧(x.foldl (step c) rows).length≤rows.length + x.length
 | [],rows,n,h=>⟨by simpa using h,by simp⟩
 | d :: x,rows,n,h=>by
  obtain ⟨h1,h2⟩:=fold_len c x (step c rows d) (n + 1) (step_len c h d)
  have h3:=step_many c rows d
  refine ⟨fun r hr=>?_,?_⟩
  ·have:=h1 r hr;simp only [List.length_cons];omega
  ·rw [List.foldl_cons];simp only [List.length_cons];omega
theorem parts_len (c:Nat) (x:List Nat):(∀ r∈parts c x,r.length≤x.length)∧(parts c x).length≤1 + x.length:=by
 have:=fold_len c x [[]] 0 (by simp)
 unfold parts;simpa using this
theorem glue_len (c:Nat):∀ {rows:List (List Nat)} {n:Nat},(∀ r∈rows,r.length≤n)→(glue c rows).length≤rows.length * (n + 1)
 | [],_,_=>by simp [glue]
 | [p],n,h=>by have:=h p (by simp);simp [glue];omega
 | p :: q :: r,n,h=>by
  have h1:=h p (by simp)
  have h2:=glue_len c (rows:=q :: r) (n:=n) fun x hx=>h x (by simp [hx])
  show (p ++ c :: glue c (q :: r)).length≤_
  rw [List.length_append,List.length_cons,List.length_cons,Nat.succ_mul]
  omega
end SpM
set_option Elab.async false
set_option linter.all false
set_option maxRecDepth 100000
namespace PyProof.Rows
open PySem PySem.Spec PySem.Builtin PySem.Builtin.Str
section
variable {prog:Program} {w:World} {A:Around} {E:Value→Shared→Prop} {s:Shared} {x y:Str} {t u:Tok} {Q:Value→Shared→Prop}
theorem split_push (hy:(y.length == 0)=false)
  (h:∀ (l:List (Str × Tok)) (k:Nat),l.map (·.1)=Txt.split x y→Q (.ref s.heap.objs.size) { s with heap:=s.heap.push { cls:=.type "list",data:=.seq (strValues l).toArray },toks:=k })
  (hsz:x.length + 2≤sizeLine):wpAny (model prog w) A (call (.builtin "str.split") [.str x t,.str y u]) Q E s:=by
 have hn:(partsBetween x (occurrences x y 0 x.length (x.length + 1)) y.length).length≤sizeLine:=by
  have e1:=StrLaws.occ_length_le x y 0 x.length (x.length + 1)
  rw [length_partsBetween];omega
 cases h1:(decide (x.length < y.length) || decide (Builtin.Str.strKind x < Builtin.Str.strKind y))
 ·cases hf:(occurrences x y 0 x.length (x.length + 1)).isEmpty
  ·refine call_meets F.slot_str_split (typeIs_str _ _ _) F.entry_str_split (F.args_str_split_2 _ _) (meets_str_split_sep x y t u h1 hy hf (by omega) hn) ?_
   show wants Q E _ { s with toks:=_,heap:=s.heap.push { cls:=.type "list",data:=.seq (strsFrom s.toks (partsBetween x (occurrences x y 0 x.length (x.length + 1)) y.length)).toArray } }
   rw [strsFrom_eq]
   exact h (numbered s.toks _) _ ((numbered_texts _ _).trans ((if_neg (ne_true_of_eq_false h1)).trans (if_neg (ne_true_of_eq_false hf))).symm)
  ·exact call_meets F.slot_str_split (typeIs_str _ _ _) F.entry_str_split (F.args_str_split_2 _ _) (meets_str_split_not_found x y t u h1 hy hf)
    (h [(x,t)] s.toks ((if_neg (ne_true_of_eq_false h1)).trans (if_pos hf)).symm)
 ·exact call_meets F.slot_str_split (typeIs_str _ _ _) F.entry_str_split (F.args_str_split_2 _ _) (meets_str_split_cannot_occur x y t u h1)
   (h [(x,t)] s.toks (if_pos h1).symm)
end
end PyProof.Rows
namespace L2
open PySem PySem.Spec PyProof.Rows QL
theorem vals_strs:∀ (l:List (Str × Tok)),Vals ((l.map (·.1)).map V.str) (strValues l)
 | []=>.nil
 | (a,t) :: l=>.cons ⟨t,rfl⟩ (vals_strs l)
theorem rowsV_parts (z:List Nat) (c:Nat):(Txt.split (tx z) ⟨#[c]⟩).map V.str=rowsV (SpM.parts c z):=by
 have e:=SpM.split_parts (tx z) c
 rw [tx_list] at e
 rw [← e]
 unfold rowsV
 rw [List.map_map]
 refine List.map_congr_left fun y _=>?_
 show V.str y=V.str (tx y.cps.toList)
 unfold tx
 simp
section
variable {X:Cx}
def rSplit:V→List V→Hp→VK→Prop:=fun x xs H Q=>∃ z c,x=.str (tx z)∧xs=[.str ⟨#[c]⟩]∧z.length≤1000∧∀ p,H p=none→Q (.ref p) (upd H p (.lst (rowsV (SpM.parts c z))))
end
end L2
set_option Elab.async false
set_option linter.all false
set_option maxRecDepth 100000
namespace L2
open PySem PySem.Spec PyProof.Rows
structure ClsFn (K:PySem.W.Frag) (C:Addr) (m:Str) (f:Addr):Prop where
 sp:PySem.W.specialIn K (.ref C) "__getattribute__" = some (some (.builtin "type.__getattribute__"))
 rd:PySem.W.readsIn K C (.type "type")=true
 fi:PySem.W.findCls K (.ref C) (.type "type") m=some (.val (.ref f))
 kp:PySem.W.keepIn K (.ref f)=true
section
variable {X:Cx} {CX:CXT} {k:Nat} {f C:Addr} {fd:FuncData} {ps:List Str} {sp:Sp} {E:XK} {x m:Str} {p pos apos:Pos} {e:Expr} {es:List Expr} {t:TA}
theorem pe_clsfn {pl:Sem Bool} (c:ClsFn X.K C m f) (F:FnOk X.prog X.w X.K X.mg X.base CX k f fd ps sp) (hr:Room k X.A) (hg:Gl X x) (hm:X.mg x=some (.ref C)) (hb:Binds X.K fd ps []) (hx:Passes CX X E) (ha:PA X (e :: es) t)
  (hdb:(x == ("__debug__":Str))=false:=by decide +kernel) (hst:starEach (e :: es) X.env=(false,eval e X.env) :: starEach es X.env:=by rfl) (hpl:(backTo pos (starEach es X.env)).any (·.1)=false:=by rfl)
  (ht:eval (.Call (.Attribute (.Name x p) m apos) (e :: es) [] pos) X.env=(do
   let ov ← eval (.Name x p) X.env
   standAt apos.atName
   let (f,first) ← holding [ov] (getMethod ov m pl)
   callWith pos f first (backTo pos (starEach (e :: es) X.env)) (backToKw pos (keywordEach [] X.env))):=by rfl) :
  PE X (.Call (.Attribute (.Name x p) m apos) (e :: es) [] pos) (tCall sp [] E t):=by
 intro pins s σ H Q I h
 refine PySem.W.methodCall_KW (pl:=pl) (ld_glob I hg hm ?_ hdb) ht
 refine PySem.W.method_cls I.kIn c.sp (PySem.W.cls_value I.kIn c.rd c.fi rfl ?_)
 have I1:=I.tok (s.toks + 1)
 refine PySem.W.callWith_K (first:=[]) (h₀:=X.base) I.ok.mod.kin c.kp (thn (ha pos pins _ σ H _ I1 h) fun us s2 ⟨vs,H2,I2,r,q2⟩=>⟨I2.kIn,?_⟩) hst hpl
 exact run_fn F hr hb .nil hx I2 r q2
end
end L2
set_option Elab.async false
set_option linter.all false
set_option maxRecDepth 100000
namespace L2
open PySem PySem.Spec PyProof.Rows
section
variable (P:Program) (w:World) (K:PySem.W.Frag) (mg:Str→Option Value) (base:Heap) (CX:CXT)
structure CalC (k:Nat) (x m:Str) (ps:List Str) (sp:Sp):Prop where
 ex:∃ (C f:Addr) (fd:FuncData),FnOk P w K mg base CX k f fd ps sp∧mg x=some (.ref C)∧ClsFn K C m f∧Binds K fd ps []
structure CalK (k:Nat) (x:Str) (C:Addr) (ps:List Str) (sp:Sp):Prop where
 ex:∃ (f:Addr) (fd:FuncData),FnOk P w K mg base CX k f fd ps sp∧mg x=some (.ref C)∧Mk K C f∧Binds K fd ps []
structure CalM (k:Nat) (C:Addr) (m:Str) (ps:List Str) (sp:Sp):Prop where
 ex:∃ (f:Addr) (fd:FuncData),FnOk P w K mg base CX k f fd ps sp∧Cls K C∧Meth K C m f∧Binds K fd ps []
end
section
variable {X:Cx} {CX:CXT} {k:Nat} {C:Addr} {ps:List Str} {sp:Sp} {E:XK} {x m:Str} {p pos apos:Pos} {e o:Expr} {es:List Expr} {t:TA} {ta:TE}
theorem pe_calC {pl:Sem Bool} (c:CalC X.prog X.w X.K X.mg X.base CX k x m ps sp) (hr:Room k X.A) (hg:Gl X x) (hx:Passes CX X E) (ha:PA X (e :: es) t)
  (hdb:(x == ("__debug__":Str))=false:=by decide +kernel) (hst:starEach (e :: es) X.env=(false,eval e X.env) :: starEach es X.env:=by rfl) (hpl:(backTo pos (starEach es X.env)).any (·.1)=false:=by rfl)
  (ht:eval (.Call (.Attribute (.Name x p) m apos) (e :: es) [] pos) X.env=(do
   let ov ← eval (.Name x p) X.env
   standAt apos.atName
   let (f,first) ← holding [ov] (getMethod ov m pl)
   callWith pos f first (backTo pos (starEach (e :: es) X.env)) (backToKw pos (keywordEach [] X.env))):=by rfl) :
  PE X (.Call (.Attribute (.Name x p) m apos) (e :: es) [] pos) (tCall sp [] E t):=by
 obtain ⟨C,f,fd,F,hm,cf,hb⟩:=c.ex
 exact pe_clsfn cf F hr hg hm hb hx ha hdb hst hpl ht
theorem pe_calK (c:CalK X.prog X.w X.K X.mg X.base CX k x C ps sp) (hr:Room (k + 1) X.A) (hg:Gl X x) (hx:Passes CX X E) (ha:PA X (e :: es) t)
  (hdb:(x == ("__debug__":Str))=false:=by decide +kernel) (hst:starEach (e :: es) X.env=(false,eval e X.env) :: starEach es X.env:=by rfl) (hpl:(backTo pos (starEach es X.env)).any (·.1)=false:=by rfl) :
  PE X (.Call (.Name x p) (e :: es) [] pos) (tMake C sp [] E t):=by
 obtain ⟨f,fd,F,hm,M,hb⟩:=c.ex
 exact pe_make M F hr hg hm hb .nil hx ha hdb hst hpl
theorem pe_calM {pl:Sem Bool} (c:CalM X.prog X.w X.K X.mg X.base CX k C m ps sp) (hr:Room k X.A) (hx:Passes CX X E) (he:PE X o ta) (ha:PA X (e :: es) t)
  (hst:starEach (e :: es) X.env=(false,eval e X.env) :: starEach es X.env:=by rfl) (hpl:(backTo pos (starEach es X.env)).any (·.1)=false:=by rfl)
  (ht:eval (.Call (.Attribute o m apos) (e :: es) [] pos) X.env=(do
   let ov ← eval o X.env
   standAt apos.atName
   let (f,first) ← holding [ov] (getMethod ov m pl)
   callWith pos f first (backTo pos (starEach (e :: es) X.env)) (backToKw pos (keywordEach [] X.env))):=by rfl) :
  PE X (.Call (.Attribute o m apos) (e :: es) [] pos) (tMeth C m sp [] E ta t):=by
 obtain ⟨f,fd,F,cl,hm,hb⟩:=c.ex
 exact pe_meth he cl hm F hr hb .nil hx ha hst hpl ht
theorem pe_calM0 {pl:Sem Bool} (c:CalM X.prog X.w X.K X.mg X.base CX k C m ps sp) (hr:Room k X.A) (hx:Passes CX X E) (he:PE X o ta)
  (ht:eval (.Call (.Attribute o m apos) [] [] pos) X.env=(do
   let ov ← eval o X.env
   standAt apos.atName
   let (f,first) ← holding [ov] (getMethod ov m pl)
   callWith pos f first (backTo pos (starEach [] X.env)) (backToKw pos (keywordEach [] X.env))):=by rfl) :
  PE X (.Call (.Attribute o m apos) [] [] pos) (tMeth C m sp [] E ta tNil):=by
 obtain ⟨f,fd,F,cl,hm,hb⟩:=c.ex
 exact pe_meth0 he cl hm F hr hb .nil hx ht
end
end L2
set_option Elab.async false
set_option linter.all false
set_option maxRecDepth 100000
namespace L2
open PySem PySem.Spec PyProof.Rows
section
variable {g:TG} {ti:TT} {te:TE} {σ:St} {H:Hp} {Q:List V→Hp→Prop}
theorem comp_str {x:Str} (Pv:Nat→List V→St→Hp→Prop) (h0:Pv 0 [] σ H) (hz:∀ i acc σ H,Pv i acc σ H→acc.length < sizeLine) (hi:∀ i acc σ H,Pv i acc σ H→i≤x.cps.size)
  (hs:∀ i c acc σ H,x.cps[i]?=some c→Pv i acc σ H→g (.str ⟨#[c]⟩) σ H fun σ2 H3=>ti σ2 H3 fun b H4=>if b=true then te σ2 H4 fun v H5=>Pv (i + 1) (acc ++ [v]) σ2 H5 else Pv (i + 1) acc σ2 H4)
  (he:∀ acc σ H,Pv x.cps.size acc σ H→Q acc H):CompW (Its x) g ti te σ H Q:=by
 exact comp_by (J:=Its x) (g:=g) (ti:=ti) (te:=te) (Q:=Q) (n:=x.cps.size) Pv h0 hz hi (fun acc σ H w=>Nat.le_refl _) (fun i acc σ H hlt w=>hlt)
  (fun i v acc σ H H2 hlt w y=>by obtain ⟨rfl,c,hc,rfl⟩:=y;exact hs i c acc σ H2 hc w) he
end
section
variable {X:Cx} {e:Expr} {tx:TX} {i:Nat} {n x:Str} {D:Addr} {bmD:List Value} {nD:String} {b₀:Stmt} {suite:List Stmt} {epos pos hpos np:Pos} {ts:Addr→TS}
def tTryEx (K:PySem.W.Frag) (D:Addr) (tx:TX) (i:Nat) (ts:Addr→TS):TS:=fun De σ H=>
 tx σ H (fun _ H1=>De.nx σ H1) (fun cls od H'=>∃ C bm nid,cls=.ref C∧XCls K C bm nid∧Under K C D∧∀ ea,H' ea=none →
  ts ea { nx:=fun σ2 H2=>De.nx (σ2.set i none) H2,rt:=De.rt,bk:=fun σ2 H2=>De.bk (σ2.set i none) H2,ct:=fun σ2 H2=>De.ct (σ2.set i none) H2 } (σ.set i (some (.ref ea))) (upd H' ea (xo ea (.ref C) od)))
end
end L2
set_option Elab.async false
set_option linter.all false
set_option maxRecDepth 100000
namespace L2
open PySem PySem.Spec PyProof.Rows
section
variable (P:Program) (w:World) (K:PySem.W.Frag) (mg:Str→Option Value) (base:Heap) (CX:CXT)
structure CalP (k:Nat) (m:Str) (os:List (Addr × Sp)):Prop where
 ex:∀ o∈os,∃ ps,CalM P w K mg base CX k o.1 m ps o.2
end
def tMethP (m:Str) (os:List (Addr × Sp)) (E:XK) (ta:TE) (t:TA):TE:=fun σ H Q=>ta σ H fun x H1=>∃ o∈os,∃ a dx fs,x=.ref a∧H1 a=some (.ins o.1 dx fs)∧fs.lookup m=none ∧
 t σ H1 fun vs H2=>o.2 (x :: (vs ++ [])) H2 Q E
section
variable {X:Cx} {CX:CXT} {k:Nat} {os:List (Addr × Sp)} {E:XK} {m:Str} {pos apos:Pos} {e o:Expr} {es:List Expr} {t:TA} {ta:TE}
theorem pe_calP0 {pl:Sem Bool} (c:CalP X.prog X.w X.K X.mg X.base CX k m os) (hr:Room k X.A) (hx:Passes CX X E) (he:PE X o ta)
  (ht:eval (.Call (.Attribute o m apos) [] [] pos) X.env=(do
   let ov ← eval o X.env
   standAt apos.atName
   let (f,first) ← holding [ov] (getMethod ov m pl)
   callWith pos f first (backTo pos (starEach [] X.env)) (backToKw pos (keywordEach [] X.env))):=by rfl) :
  PE X (.Call (.Attribute o m apos) [] [] pos) (tMethP m os E ta tNil):=by
 intro pins s σ H Q I h
 refine PySem.W.methodCall_KW (pl:=pl) (thn (he pins s σ H _ I h) fun u s1 ⟨x,H1,I1,rx,oc,ho,a,dx,fs,ex,ea,l,q⟩=>?_) ht
 subst ex
 obtain rfl:u=Value.ref a:=rx
 obtain ⟨ps,cm⟩:=c.ex oc ho
 obtain ⟨f,fd,F,cl,hm,hb⟩:=cm.ex
 refine getmeth_ok I1 ea cl hm l ?_
 exact PySem.W.callWith_K0 (first:=[.ref a]) I1.kIn hm.kp (run_fn (us:=[.ref a]) (vs:=[.ref a]) F hr hb .nil hx I1 (.cons rfl .nil) q)
end
structure ICls (K:PySem.W.Frag) (C:Addr):Prop where
 cl:Cls K C
 ha:PySem.W.findIn K (.ref C) "__class__" = some (some (.builtin "object.__class__"))
 hn:PySem.W.specialIn K (.builtin "object.__class__") "__get__" = some (some (.builtin "getset_descriptor.__get__"))
 htk:PySem.W.takesIn K (.builtin "object.__class__")=some true
 hm:PySem.W.mroIn K C (.type "object")=some true
theorem ICls.ty {K:PySem.W.Frag} {C a dx:Addr} {H:Hp} {fs:List (Str × V)} (i:ICls K C) (e:H a=some (.ins C dx fs)):TyOf K H (.ref a) (.ref C):=.ins e i.cl i.ha i.hn i.htk i.hm
def tMethX (m:Str) (os:List (Addr × Sp)) (ta:TE) (t:TA):TX:=fun σ H Q E=>ta σ H fun x H1=>∃ o∈os,∃ a dx fs,x=.ref a∧H1 a=some (.ins o.1 dx fs)∧fs.lookup m=none ∧
 t σ H1 fun vs H2=>o.2 (x :: vs) H2 Q E
section
variable {X:Cx} {CX:CXT} {k:Nat} {os:List (Addr × Sp)} {m:Str} {pos apos:Pos} {e o:Expr} {es:List Expr} {t:TA} {ta:TE}
end
section
variable {X:Cx} {es:List Expr} {t:TA}
theorem pa_consS {x j p} (hr:PA X es t):PA X (.Constant (.str x) j p :: es) (tCons (tC (.str x)) t):=pa_cons pe_str hr rfl
theorem pa_consI {x j p} (hr:PA X es t):PA X (.Constant (.int x) j p :: es) (tCons (tC (.int x)) t):=pa_cons pe_int hr rfl
end
end L2
set_option Elab.async false
set_option linter.all false
set_option maxRecDepth 100000
namespace PyProof.Rows
open PySem PySem.Spec PySem.Builtin PySem.Builtin.Str
section
variable {prog:Program} {w:World} {A:Around} {E:Value→Shared→Prop} {s:Shared} {x y:Str} {t u:Tok} {Q:Value→Shared→Prop}
end
end PyProof.Rows
namespace L2
open PySem PySem.Spec PyProof.Rows QL
section
variable {X:Cx}
def rPart:V→List V→Hp→VK→Prop:=fun x xs H Q=>∃ z y,x=.str z∧xs=[.str y]∧(y.length == 0)=false∧z.length≤sizeLine∧∀ p,H p=none→Q (.ref p) (upd H p (.tup [.str (Txt.partition z y).1,.str (Txt.partition z y).2.1,.str (Txt.partition z y).2.2]))
def rStarts:V→List V→Hp→VK→Prop:=fun x xs H Q=>∃ z y,x=.str z∧xs=[.str y]∧Q (.bl (Txt.startswith z y)) H
def rEnds:V→List V→Hp→VK→Prop:=fun x xs H Q=>∃ z y,x=.str z∧xs=[.str y]∧Q (.bl (Txt.endswith z y)) H
end
theorem vals_of:∀ (xs:List V) (us:List Value),xs.length=us.length→(∀ (j:Nat) (x:V) (u:Value),xs[j]?=some x→us[j]?=some u→RelV x u)→Vals xs us
 | [],[],_,_=>.nil
 | x :: xs,u :: us,hl,h=>.cons (h 0 x u rfl rfl) (vals_of xs us (by simpa using hl) fun j y v e1 e2=>h (j + 1) y v (by simpa using e1) (by simpa using e2))
section
variable {X:Cx}
def rIntT:List V→Hp→VK→Prop:=fun xs H Q=>∃ z n,xs=[.str z]∧PySem.intText? z=some n∧z.length≤640∧Q (.int n) H
theorem call_int_text:CallR X (.type "int") rIntT:=by
 intro pins s σ H xs us Q I r h
 obtain ⟨z,n,rfl,hn,hl,q⟩:=h
 obtain ⟨u,rfl,t,rfl⟩:=vals1 r
 exact PySem.W.KIN.call_text hn hl ⟨.int n,H,I.tok _,⟨_,rfl⟩,q⟩
def rListS:List V→Hp→VK→Prop:=fun xs H Q=>∃ z,xs=[.str z]∧z.length≤sizeLine∧∀ l,H l=none→Q (.ref l) (upd H l (.lst (z.cps.toList.map fun c=>V.str ⟨#[c]⟩)))
end
end L2
set_option Elab.async false
set_option linter.all false
set_option maxRecDepth 100000
namespace L2
open PySem PySem.Spec PyProof.Rows
section
variable {X:Cx} {pins:List (Addr × Obj)} {σ:St} {H:Hp} {s:Shared} {a:Addr} {kvs:List (Key × V)} {k:Key} {u r:Value} {d:V} {A:Around} {E:Value→Shared→Prop}
theorem d_setdef {Q:Value→Shared→Prop} (I:Inv X pins σ H s) (e:H a=some (.dK kvs)) (ry:RelV (kV k) u) (rd:RelV d r) (hl:kvs.length < sizeLine)
  (h1:∀ v w' s',valV kvs k=some v→Inv X pins σ H s'→RelV v w'→Q w' s') (h2:valV kvs k=none→∀ s',Inv X pins σ (upd H a (.dK (putK kvs k d))) s'→Q r s') :
  wpAny (model X.prog X.w) A (call (.builtin "dict.setdefault") [.ref a,u,r]) Q E s:=by
 obtain ⟨z,hd,vs,rel,dd⟩:=dk_of I.hok e
 have hz:vs.length≤sizeLine:=by rw [← rel.length];exact z
 have hl':(putK kvs k d).length≤sizeLine:=by have:=length_putK kvs k d;omega
 refine call_meetsIn PySem.F.slot_dict_setdefault dd.typeIs PySem.F.entry_dict_setdefault (PySem.F.args_dict_setdefault_3 _ _ _) (kt_meets_setdefault (mixKind X.prog X.w) a (kV_is ry) hd r) ⟨vs,dd,hz,fun v hv=>?_,fun hn h' dd' hs=>?_⟩
 ·have q:=rel.val k
  rw [hv] at q
  cases hvv:valV kvs k with
  | none=>rw [hvv] at q;exact False.elim q
  | some v0=>rw [hvv] at q;exact h1 v0 v _ hvv (I.tok _) q
 ·have q:=rel.val k
  rw [hn] at q
  have hvv:valV kvs k=none:=by
   cases hvv:valV kvs k with
   | none=>rfl
   | some v0=>rw [hvv] at q;exact False.elim q
  have he:∃ q,h'.get? a=some q:=let ⟨q,_,_,hq,_⟩:=dd';⟨q,hq⟩
  exact h2 hvv _ (d_write I (by rw [e];exact True.intro) hs he (dk_new hl' hd (rel.put k rd) dd'))
end
def tDSetdef (td ty tx:TE):TE:=fun σ H Q=>td σ H fun x H1=>∃ a,x=.ref a∧IsD H1 a∧ty σ H1 fun y H2=>tx σ H2 fun z H3=>∃ kvs k,H3 a=some (.dK kvs)∧y=kV k∧kvs.length < sizeLine ∧
 (∀ v,valV kvs k=some v→Q v H3)∧(valV kvs k=none→Q z (upd H3 a (.dK (putK kvs k z))))
section
variable {X:Cx} {o e f:Expr} {apos cpos:Pos} {td ty tx:TE}
theorem pe_dsetdef (ho:PE X o td) (he:PE X e ty) (hf:PE X f tx) (m:M2 X o "setdefault" apos e f cpos):PE X (.Call (.Attribute o "setdefault" apos) [e,f] [] cpos) (tDSetdef td ty tx):=by
 intro pins s σ H Q I h
 refine wpAny_Call_method m.base m.few m.line PySem.F.plainAttrs_dict PySem.F.slot_dict_setdefault PySem.F.type_dict_setdefault (thn (ho pins s σ H _ I h) fun u s1 ⟨x,H1,I1,rx,a,ex,d,q1⟩=>?_)
 subst ex
 obtain rfl:u=Value.ref a:=rx
 obtain ⟨t1,t2,_⟩:=isD_at I1 d
 refine ⟨t1,t2,?_⟩
 rw [m.trees]
 refine Calls.callWith_builtin rfl (Calls.evalArgs_plain (Calls.spliced_cons (thn (he pins s1 σ H1 _ I1 q1) fun iv s2 ⟨y,H2,I2,ry,q2⟩=>
  Calls.spliced_cons (thn (hf pins s2 σ H2 _ I2 q2) fun fv s3 ⟨z,H3,I3,rz,kvs,k,hH,ey,hlen,g1,g2⟩=>Calls.spliced_nil ?_))))
 subst ey
 exact d_setdef I3 hH ry rz hlen (fun v w' s4 hv I4 rv=>⟨v,H3,I4,rv,g1 v hv⟩) fun hn s4 I4=>⟨z,_,I4,rz,g2 hn⟩
end
end L2
set_option Elab.async false
set_option linter.all false
set_option maxRecDepth 100000
namespace L2
open PySem PySem.Spec PyProof.Rows
theorem is_kV {P:Program} {w:World} {k:Key} {u:Value} (h:(mixKind P w).is k u=true):RelV (kV k) u:=by
 rcases keyIs_shape (show keyIs k u=true from h) with ⟨i,t,rfl,rfl⟩ | ⟨x,t,rfl,rfl⟩ <;> exact ⟨_,rfl⟩
section
variable {X:Cx}
def rListD:List V→Hp→VK→Prop:=fun xs H Q=>∃ a kvs,xs=[.ref a]∧H a=some (.dK kvs)∧∀ l,H l=none→Q (.ref l) (upd H l (.lst (kvs.map fun kv=>kV kv.1)))
theorem call_listD (hc:X.calm=true):CallR X (.type "list") rListD:=by
 intro pins s σ H xs us Q I r h
 obtain ⟨a,kvs,rfl,e,q⟩:=h
 obtain ⟨u,rfl,ru⟩:=vals1 r
 obtain rfl:u=Value.ref a:=ru
 obtain ⟨z,hd,vs,rel,dd⟩:=dk_of I.hok e
 obtain ⟨ep,da⟩:=dd.dictAt
 have hz:vs.length≤sizeLine:=by rw [← rel.length];exact z
 refine PySem.W.kdl_call (PySem.W.kdl_dict hd) (I.ok.hd hc) da hz fun h' tk acc' c' hk hS hacc=>?_
 have hv:Vals (kvs.map fun kv=>kV kv.1) acc'.toList:=by
  refine vals_of _ _ (by rw [List.length_map];simp [hacc.1,rel.length]) fun j x u e1 e2=>?_
  obtain ⟨k,w,hc2,hi⟩:=hacc.2 j u (by simpa using e2)
  have hm:(kvs.map fun kv=>kV kv.1)=(vs.map (·.1)).map kV:=by rw [← rel.keys,List.map_map];rfl
  rw [hm,List.getElem?_map,List.getElem?_map,hc2] at e1
  cases e1
  exact is_kV hi
 exact ⟨.ref s.heap.objs.size,upd H s.heap.objs.size (.lst (kvs.map fun kv=>kV kv.1)),I.laid (t':=tk) hk (Nat.le_refl _) ⟨by rw [List.length_map];exact z,acc'.toList,c',hv,by simpa using hS⟩,rfl,q _ (I.hok.fresh (Nat.le_refl _))⟩
end
end L2
set_option Elab.async false
set_option linter.all false
set_option maxRecDepth 100000
namespace L2
open PySem PySem.Spec PyProof.Rows
section
variable {K:Type} [DecidableEq K]
def metStep (σ:List K) (v:K):List K:=if v∈σ then σ else σ ++ [v]
def met (l:List K):List K:=l.foldl metStep []
theorem metStep_mem (σ:List K) (v k:K):decide (k∈metStep σ v)=(decide (k∈σ) || decide (k=v)):=by
 unfold metStep
 by_cases h:v∈σ
 ·rw [if_pos h]
  by_cases e:k=v
  ·subst e;simp [h]
  ·simp [e]
 ·rw [if_neg h]
  simp [List.mem_append]
theorem metStep_len (σ:List K) (v:K):(metStep σ v).length=if decide (v∈σ) then σ.length else σ.length + 1:=by
 unfold metStep
 by_cases h:v∈σ <;> simp [h]
theorem met_snoc (l:List K) (v:K):met (l ++ [v])=metStep (met l) v:=by unfold met;rw [List.foldl_append];rfl
theorem fold_le:∀ (l σ:List K),(l.foldl metStep σ).length≤σ.length + l.length
 | [],σ=>Nat.le_refl _
 | v :: l,σ=>by
  have h:=fold_le l (metStep σ v)
  have e:=metStep_len σ v
  rw [List.foldl_cons,List.length_cons]
  split at e <;> omega
theorem met_le (n:Nat) (l:List K) (h:l.length=n):(met l).length≤n:=by
 have:=fold_le l []
 rw [← h];unfold met;simpa using this
end
section
variable {prog:Program} {w:World} {K:Type} [DecidableEq K] {knd:KeyKind prog w K} {A:Around} {R:Result→Shared→Prop} {I:Addr} {fp wr:List Addr} {G:Array GenState→Array GenState→Prop} {n:Nat} {P:Nat→Value→Prop} {St:Nat→Shared→Prop}
theorem setLoop (W:WalksS prog w A.in1 I fp wr G n P St) (S:Addr) (hSf:S ∉ fp) (l:List K) (hl:l.length=n)
  (hval:∀ i v,P i v→∃ k,l[i]?=some k∧knd.is k v=true∧v.scannable=true) (hb:n + 1 < scanBound) :
  ∀ (k i:Nat) (s:Shared),n - i=k→i≤n→St i s →
   s.heap.SetOf knd S (fun k'=>decide (k'∈met (l.take i))) (met (l.take i)).length →
   (∀ s',Moved (S :: wr) G s s'→s'.heap.SetOf knd S (fun k'=>decide (k'∈met l)) (met l).length→R (.ok (.ret .none)) s') →
   codeAny (model prog w) A (.builtin "set.update.loop" ⟨[.ref S,.ref I],[]⟩) R s:=by
 have hSw:S ∉ wr:=fun h=>hSf (W.sub _ h)
 have hsub:∀ b∈wr,b∈S :: wr:=fun b hb=>List.mem_cons_of_mem _ hb
 intro k
 induction k with
 | zero=>
  intro i s hk hi hst hS hR
  have hin:i=n:=by omega
  subst hin
  rw [← hl,List.take_length] at hS
  refine codeAny_builtin F.entry_set_update_loop ?_
  rw [Around.under_plainId F.plain_set_update_loop _]
  show wpAny _ A.in1 (pyNext (.ref I) >>= _) _ _ s
  refine wpAny_bind (W.done s _ _ hst fun s' hm=>?_)
  show wpAny _ A.in1 (ret Value.none) _ _ s'
  refine wpAny_pure (hR s' (hm.mono hsub) ?_)
  obtain ⟨o,es,ep,t,ho,rest⟩:=hS
  exact ⟨o,es,ep,t,hm.heap S _ hSw ho,rest⟩
 | succ k ih=>
  intro i s hk hi hst hS hR
  have hlt:i < n:=by omega
  refine codeAny_builtin F.entry_set_update_loop ?_
  rw [Around.under_plainId F.plain_set_update_loop _]
  show wpAny _ A.in1 (pyNext (.ref I) >>= _) _ _ s
  refine wpAny_bind (W.item i s _ _ hlt hst fun v s' hP hst' hm=>?_)
  obtain ⟨key,hkey,his,hsc⟩:=hval i v hP
  have hS':s'.heap.SetOf knd S (fun k'=>decide (k'∈met (l.take i))) (met (l.take i)).length:=by
   obtain ⟨o,es,ep,tb,ho,rest⟩:=hS
   exact ⟨o,es,ep,tb,hm.heap S _ hSw ho,rest⟩
  show wpAny _ A.in1 (holding [v] (setAdd S v) >>= _) _ _ s'
  refine wpAny_bind (wpAny_holding ?_)
  unfold setAdd
  refine wpAny_holding ?_
  refine wpAny_bind (knd.pyHash (k:=key) his ?_)
  have hroom:(met (l.take i)).length + 1 < scanBound:=by have:=met_le i (l.take i) (by rw [List.length_take];omega);omega
  refine wpAny_setAddHashed_of (knd:=knd) (s:={ s' with toks:=s'.toks + 1 }) his hsc hS' hroom fun h' hsb hS2=>?_
  have ht:l.take (i + 1)=l.take i ++ [key]:=by rw [List.take_add_one,hkey];rfl
  have hSi:h'.SetOf knd S (fun k'=>decide (k'∈met (l.take (i + 1)))) (met (l.take (i + 1))).length:=
   SetOf_congr hS2 (fun k'=>by rw [ht,met_snoc,metStep_mem]) (by rw [ht,met_snoc,metStep_len])
  refine wpAny_pure ⟨plainId_quiet F.plain_set_update_loop _,ih (i + 1) _ (by omega) hlt (W.frame _ s' _ _ hst' (Nat.le_succ _) fun b hb o e=>?_) hSi fun s'' hm'' hS''=>?_⟩
  ·rw [hsb.2 b (fun h:b=S=>hSf (by rw [← h];exact hb))];exact e
  ·refine hR s'' (Moved.trans W.gtrans ((hm.mono hsub).then_heap (Nat.le_succ _) fun b o hb e=>?_) hm'') hS''
   rw [hsb.2 b (fun h:b=S=>hb (by rw [h];exact List.mem_cons_self))];exact e
end
end L2
set_option Elab.async false
set_option linter.all false
set_option maxRecDepth 100000
namespace L2
open PySem PySem.Spec PyProof.Rows
def signsOf (z:Str):List Str:=z.cps.toList.map fun c=>(⟨#[c]⟩:Str)
section
variable {prog:Program} {w:World} {A:Around} {E:Value→Shared→Prop} {s:Shared}
set_option maxHeartbeats 3200000 in
theorem call_set_text {x:Str} {t:Tok} {Q:Value→Shared→Prop} (hh:A.handled=none) (hb:x.cps.size + 1 < scanBound)
  (h:∀ (h':Heap) (tk:Nat),h'.SetOf (strKind prog w) s.heap.objs.size (fun k'=>decide (k'∈met (signsOf x))) (met (signsOf x)).length →
   (∀ b o,s.heap.get? b=some o→h'.get? b=some o)→Q (.ref s.heap.objs.size) { s with heap:=h',toks:=tk }) :
  wpAny (model prog w) A (call (.type "set") [.str x t]) Q E s:=by
 obtain ⟨c,tl,hmro⟩:=PySem.F.called_set.mro
 have hmade:=PySem.F.called_set.made
 have hsub:=PySem.F.called_set.sub
 refine wpAny_call (codeAny_of_tree ?_)
 show wpAny _ _ (callAny (.type "set") _) _ _ _
 refine wpAny_pure ⟨Code.quiet_builtin _ (by decide +kernel),codeAny_builtin PySem.F.entry_type_call ?_⟩
 rw [Around.under_plain (weight_type_call_type "set" [.str x t] []) rfl]
 have h1:=PySem.F.called_set.notType
 have h2:=PySem.F.called_set.canCreate
 have hct:=PySem.F.typeCall_set_1 (.str x t)
 repeat (any_goals (first | assumption | wp_step))
 refine codeAny_mono (code_set_new_1 (.str x t) (E:=E) (Q₁:=fun obj s₁=>∃ led:Bool,obj=.ref s.heap.objs.size∧s₁={ s with heap:=s.heap.push { cls:=.type "set",dict:=none,data:=.set #[] 0 (.fresh 0 0 led) } }) fun led=>⟨led,rfl,rfl⟩) fun r s₁ hr=>?_
 cases r with
 | error e=>exact hr
 | ok fl=>
  cases fl with
  | ret obj=>
   obtain ⟨led,rfl,rfl⟩:=hr
   have hS:(s.heap.push { cls:=.type "set",dict:=none,data:=.set #[] 0 (.fresh 0 0 led) }).get? s.heap.objs.size=some { cls:=.type "set",dict:=none,data:=.set #[] 0 (.fresh 0 0 led) }:=Heap.get?_push_size _ rfl
   have hT:Shared.TypeIs { s with heap:=s.heap.push { cls:=.type "set",dict:=none,data:=.set #[] 0 (.fresh 0 0 led) } } (.ref s.heap.objs.size) "set":=⟨_,hS,rfl⟩
   have hli:=PySem.F.called_set.init.lookup
   have hbi:=PySem.F.called_set.init.bind (.ref s.heap.objs.size)
   repeat (any_goals (first | assumption | wp_step))
   refine codeAny_mono (codeAny_call_builtin (R:=wants (fun r s₂=>r=.none∧∃ h' tk,s₂={ s with heap:=h',toks:=tk } ∧
     h'.SetOf (strKind prog w) s.heap.objs.size (fun k'=>decide (k'∈met (signsOf x))) (met (signsOf x)).length ∧
     (∀ b o,s.heap.get? b=some o→h'.get? b=some o)) E) PySem.F.called_set.init.plain PySem.F.entry_set_init (check_set_init_1 hT ?_)) fun r₂ s₂ hr₂=>?_
   ·have hsls:=PySem.F.sub_str_set
    have hslf:=PySem.F.sub_str_frozenset
    have hne:(Value.type "str" == Value.type "dict")=false:=by decide
    unfold Builtin.«set.__init__» noKeywords Builtin.Frozenset.updateFrom
    generalize hPI:pyIter=PI
    wp_walk
    subst hPI
    refine wpAny_pyIter_str fun o St W hst=>?_
    refine wpAny_bind (wpAny_runValue ?_)
    have hSf:s.heap.objs.size ∉ [(s.heap.push { cls:=.type "set",dict:=none,data:=.set #[] 0 (.fresh 0 0 led) }).objs.size]:=by
     rw [Heap.size_push];simp only [List.mem_singleton]
     exact Nat.ne_of_lt (Nat.lt_succ_self _)
    refine setLoop (knd:=strKind prog w) ((W _ (by simp [hh])).toS) s.heap.objs.size hSf (signsOf x) (by simp [signsOf])
     (fun i v ⟨c,u,hc,hv⟩=>⟨⟨#[c]⟩,by unfold signsOf;rw [List.getElem?_map,Array.getElem?_toList,hc];rfl,by rw [hv];exact strKind_is _ _ _ _,by rw [hv];rfl⟩) hb (x.cps.size - 0) 0 _ (by omega) (Nat.zero_le _) hst ?hS0 ?hR
    case hS0=>
     exact SetOf_congr ((setObjOf_fresh (knd:=strKind prog w) led).setOf (Heap.get?_push_of_some _ hS) (by unfold scanBound;omega)) (fun _=>rfl) rfl
    case hR=>
     intro s' hm hS'
     obtain ⟨h',g',d',tk',os'⟩:=s'
     have eg:g'=s.gens:=hm.gens
     have ed:d'=s.drawn:=hm.drawn
     have eo:os'=s.os:=hm.os
     subst eg;subst ed;subst eo
     show wpAny _ _ _ _ _ _
     refine wpAny_pure ?_
     show wpAny _ _ (ret Value.none) _ _ _
     refine wpAny_pure ⟨rfl,h',tk',rfl,hS',fun b o' e=>?_⟩
     have hb:=Heap.lt_size e
     refine hm.heap b o' ?_ (Heap.get?_push_of_some _ (Heap.get?_push_of_some _ e))
     simp only [List.mem_cons,List.not_mem_nil,or_false,not_or,Heap.size_push]
     exact ⟨Nat.ne_of_lt hb,Nat.ne_of_lt (Nat.lt_succ_of_lt hb)⟩
   ·cases r₂ with
    | error e=>exact hr₂
    | ok fl₂=>
     cases fl₂ with
     | ret r=>
      obtain ⟨rfl,h',tk,rfl,hS',hk'⟩:=hr₂
      repeat (any_goals (first | assumption | wp_step))
      exact h _ _ hS' hk'
     | _=>exact hr₂.elim
  | _=>exact hr.elim
end
def tLenSet (t:TE):TE:=fun σ H Q=>t σ H fun x H1=>∃ z,x=.str z∧z.cps.size + 1 < scanBound∧Q (.int (met (signsOf z)).length) H1
section
variable {X:Cx} {e:Expr} {t:TE} {p p2 pos pos2:Pos}
theorem pe_lenset (hc:X.calm=true) (ha:PE X e t) (g1:Gl X "len") (m1:X.mg "len" = none) (g2:Gl X "set") (m2:X.mg "set" = none)
  (he1:starEach [.Call (.Name "set" p2) [e] [] pos2] X.env=[(false,eval (.Call (.Name "set" p2) [e] [] pos2) X.env)]:=by rfl)
  (he2:starEach [e] X.env=[(false,eval e X.env)]:=by rfl) :
  PE X (.Call (.Name "len" p) [.Call (.Name "set" p2) [e] [] pos2] [] pos) (tLenSet t):=by
 intro pins s σ H Q I h
 have hl:bootBuiltins "len" = some (.builtin "len"):=by decide +kernel
 have hs:bootBuiltins "set" = some (.type "set"):=by decide +kernel
 refine wpAny_Call_Name_kw (ld_blt I g1 m1 hl ?_)
 refine PyProof.Rows.callWith_builtin1 ?_ he1 rfl
 rw [he1]
 show wpAny _ _ (spliced [(false,eval (.Call (.Name "set" p2) [e] [] pos2) X.env)]) _ _ _
 refine Calls.spliced_cons ?_
 refine wpAny_Call_Name_kw (ld_blt (I.tok _) g2 m2 hs ?_)
 refine PyProof.Rows.callWith_type1 ?_ he2 rfl
 rw [he2]
 show wpAny _ _ (spliced [(false,eval e X.env)]) _ _ _
 refine Calls.spliced_cons (thn (ha pins _ σ H _ (I.tok _) h) fun u s1 ⟨x,H1,I1,rx,z,ex,hz,q⟩=>Calls.spliced_nil ?_)
 subst ex
 obtain ⟨tk,rfl⟩:=rx
 refine call_set_text (I.ok.hd hc) hz fun h' tk' hS hk=>Calls.spliced_nil ?_
 obtain ⟨o,ho,hex,es,ep,tb,hd,_,_,hn,hf⟩:=hS.objOf
 have hle:=met_le z.cps.size (signsOf z) (by simp [signsOf])
 have hb:z.cps.size < 4096:=by unfold scanBound at hz;omega
 refine call_len_set ho hex hd hf (by rw [hn];have:((4096:Nat):Int) < 2^63:=(by decide);omega) ?_
 rw [hn]
 exact ⟨.int _,H1,(I1.kept (t':=_) hk),⟨_,rfl⟩,q⟩
end
end L2
set_option Elab.async false
set_option linter.all false
set_option maxRecDepth 100000
namespace L2
open PySem PySem.Spec PyProof.Rows
abbrev NT:=List (Str × Addr × List Nat)
def ntK (t:NT):List (Key × V):=t.map fun x=>(Sum.inr x.1,V.ref x.2.1)
def ntI (ns:List Nat):List V:=ns.map fun (n:Nat)=>V.int (n:Int)
structure NumsAt (H:Hp) (p:Addr) (t:NT):Prop where
 dict:H p=some (.dK (ntK t))
 list:∀ x∈t,H x.2.1=some (.lst (ntI x.2.2))
 apart:(t.map (·.2.1)).Nodup
theorem NumsAt.grow {H H':Hp} {p:Addr} {t:NT} (N:NumsAt H p t) (k:∀ a o,H a=some o→H' a=some o):NumsAt H' p t:=⟨k _ _ N.dict,fun x hx=>k _ _ (N.list x hx),N.apart⟩
theorem nt_val (z:Str):∀ t:NT,valV (ntK t) (.inr z)=(t.find? fun x=>decide (x.1=z)).map fun x=>V.ref x.2.1
 | []=>rfl
 | x :: t=>by
  have ih:=nt_val z t
  unfold ntK at ih ⊢
  rw [List.map_cons,List.find?_cons]
  by_cases e:x.1=z
  ·rw [valV_pos (by rw [e])];simp [e]
  ·rw [valV_neg (fun h=>e (Sum.inr.inj h)),ih];simp [e]
theorem NumsAt.new {H:Hp} {p l:Addr} {t:NT} {z:Str} (N:NumsAt H p t) (hl:H l=none) (hz:valV (ntK t) (.inr z)=none) :
  NumsAt (upd (upd H l (.lst [])) p (.dK (putK (ntK t) (.inr z) (.ref l)))) p (t ++ [(z,l,[])]):=by
 have hpl:p≠l:=fun e=>by have:=N.dict;rw [e,hl] at this;exact nomatch this
 have hx:∀ x∈t,x.2.1≠l∧x.2.1≠p:=fun x hx=>by
  have q:=N.list x hx
  constructor
  ·intro e;rw [e,hl] at q;exact nomatch q
  ·intro e;rw [e,N.dict] at q;exact nomatch q
 refine ⟨?_,fun x h=>?_,?_⟩
 ·rw [upd_same,putK_new _ hz];unfold ntK;rw [List.map_append];rfl
 ·rcases List.mem_append.mp h with h | h
  ·rw [upd_ne (hx x h).2,upd_ne (hx x h).1];exact N.list x h
  ·rw [List.mem_singleton.mp h,upd_ne (Ne.symm hpl),upd_same];rfl
 ·rw [List.map_append]
  refine List.nodup_append.mpr ⟨N.apart,by simp,fun a ha b hb=>?_⟩
  obtain ⟨x,h1,rfl⟩:=List.mem_map.mp ha
  rw [List.map_singleton] at hb
  rw [List.mem_singleton.mp hb]
  exact (hx x h1).1
theorem NumsAt.put {H:Hp} {p:Addr} {t:NT} {i k:Nat} {x:Str × Addr × List Nat} (N:NumsAt H p t) (hi:t[i]?=some x) :
  NumsAt (upd H x.2.1 (.lst (ntI (x.2.2 ++ [k])))) p (t.set i (x.1,x.2.1,x.2.2 ++ [k])):=by
 have hm:x∈t:=List.mem_of_getElem? hi
 have hp:p≠x.2.1:=fun e=>by have:=N.list x hm;rw [← e,N.dict] at this;exact nomatch this
 have hlt:i < t.length:=(List.getElem?_eq_some_iff.mp hi).1
 have hk:ntK (t.set i (x.1,x.2.1,x.2.2 ++ [k]))=ntK t:=by
  unfold ntK
  apply List.ext_getElem?
  intro j
  rw [List.getElem?_map,List.getElem?_map,List.getElem?_set]
  by_cases e:i=j
  ·subst e;rw [if_pos rfl,if_pos hlt,hi];rfl
  ·rw [if_neg e]
 have ha:(t.set i (x.1,x.2.1,x.2.2 ++ [k])).map (·.2.1)=t.map (·.2.1):=by
  apply List.ext_getElem?
  intro j
  rw [List.getElem?_map,List.getElem?_map,List.getElem?_set]
  by_cases e:i=j
  ·subst e;rw [if_pos rfl,if_pos hlt,hi];rfl
  ·rw [if_neg e]
 refine ⟨by rw [upd_ne hp,hk];exact N.dict,fun y hy=>?_,by rw [ha];exact N.apart⟩
 obtain ⟨j,hj⟩:=List.mem_iff_getElem?.mp hy
 rw [List.getElem?_set] at hj
 by_cases e:i=j
 ·rw [if_pos e,if_pos hlt] at hj
  cases hj
  exact upd_same
 ·rw [if_neg e] at hj
  have hne:y.2.1≠x.2.1:=by
   intro q
   have h1:(t.map (·.2.1))[i]?=some x.2.1:=by rw [List.getElem?_map,hi];rfl
   have h2:(t.map (·.2.1))[j]?=some x.2.1:=by rw [List.getElem?_map,hj];simp [q]
   exact e ((List.getElem?_inj (List.getElem?_eq_some_iff.mp h1).1 N.apart).mp (h1.trans h2.symm))
  rw [upd_ne hne]
  exact N.list y (List.mem_of_getElem? hj)
end L2
set_option Elab.async false
set_option linter.all false
set_option maxRecDepth 100000
namespace L2
open PySem PySem.Spec PyProof.Rows
def ntM (t:NT):List (Str × List Nat):=t.map fun x=>(x.1,x.2.2)
def ntName (m:List (Str × List Nat)) (z:Str):List (Str × List Nat):=if z∈m.map (·.1) then m else m ++ [(z,[])]
theorem nt_there {t:NT} {z:Str} {v:V} (h:valV (ntK t) (.inr z)=some v):∃ (i:Nat) (x:Str × Addr × List Nat),t[i]?=some x∧x.1=z∧v=.ref x.2.1:=by
 rw [nt_val] at h
 cases hf:t.find? (fun x=>decide (x.1=z)) with
 | none=>rw [hf] at h;exact nomatch h
 | some x=>
  rw [hf] at h
  have hv:V.ref x.2.1=v:=Option.some.inj h
  obtain ⟨i,hi⟩:=List.mem_iff_getElem?.mp (List.mem_of_find?_eq_some hf)
  have hz:=List.find?_some hf
  exact ⟨i,x,hi,of_decide_eq_true hz,hv.symm⟩
theorem nt_keys (t:NT):(ntM t).map (·.1)=t.map (·.1):=by unfold ntM;rw [List.map_map];rfl
theorem nt_not {t:NT} {z:Str} (h:valV (ntK t) (.inr z)=none):¬ z∈(ntM t).map (·.1):=by
 intro m
 rw [nt_keys] at m
 obtain ⟨x,hx,e⟩:=List.mem_map.mp m
 refine valV_not h (List.mem_map.mpr ⟨(.inr x.1,.ref x.2.1),List.mem_map.mpr ⟨x,hx,rfl⟩,?_⟩)
 show (Sum.inr x.1:Key)=Sum.inr z
 rw [e]
theorem NumsAt.setdef {H:Hp} {p l:Addr} {t:NT} {z:Str} {Q:VK} (N:NumsAt H p t) (hl:H l=none) (hn:t.length < sizeLine)
  (h:∀ (H':Hp) (t':NT) (i:Nat) (x:Str × Addr × List Nat),NumsAt H' p t'→t'[i]?=some x→x.1=z→ntM t'=ntName (ntM t) z→(∀ y∈t',y∈t∨y.2.1=l)→(∀ a o,a≠p→H a=some o→H' a=some o)→Q (.ref x.2.1) H') :
  ∃ kvs k,upd H l (.lst []) p=some (.dK kvs)∧V.str z=kV k∧kvs.length < sizeLine∧(∀ v,valV kvs k=some v→Q v (upd H l (.lst []))) ∧
   (valV kvs k=none→Q (.ref l) (upd (upd H l (.lst [])) p (.dK (putK kvs k (.ref l))))):=by
 have hpl:p≠l:=fun e=>by have:=N.dict;rw [e,hl] at this;exact nomatch this
 have gr:∀ a o,H a=some o→upd H l (.lst []) a=some o:=fun a o e=>by
  rw [upd_ne (fun q=>by rw [q,hl] at e;exact nomatch e)];exact e
 refine ⟨ntK t,.inr z,gr _ _ N.dict,rfl,by unfold ntK;rw [List.length_map];exact hn,fun v hv=>?_,fun hz=>?_⟩
 ·obtain ⟨i,x,hi,hx,rfl⟩:=nt_there hv
  refine h _ t i x (N.grow gr) hi hx ?_ (fun y hy=>.inl hy) fun a o _ e=>gr a o e
  have hm:z∈(ntM t).map (·.1):=by rw [nt_keys];exact List.mem_map.mpr ⟨x,List.mem_of_getElem? hi,hx⟩
  unfold ntName;rw [if_pos hm]
 ·refine h _ (t ++ [(z,l,[])]) t.length (z,l,[]) (N.new hl hz) (by simp) rfl ?_ (fun y hy=>(List.mem_append.mp hy).imp id fun q=>by rw [List.mem_singleton.mp q]) fun a o ha e=>by rw [upd_ne ha];exact gr a o e
  unfold ntName;rw [if_neg (nt_not hz)];unfold ntM;rw [List.map_append];rfl
theorem ntM_set {t:NT} {i:Nat} {x:Str × Addr × List Nat} (k:Nat):ntM (t.set i (x.1,x.2.1,x.2.2 ++ [k]))=(ntM t).set i (x.1,x.2.2 ++ [k]):=by
 unfold ntM;rw [List.map_set]
theorem ntName_nodup {m:List (Str × List Nat)} {z:Str} (h:(m.map (·.1)).Nodup):((ntName m z).map (·.1)).Nodup:=by
 unfold ntName
 by_cases e:z∈m.map (·.1)
 ·rw [if_pos e];exact h
 ·rw [if_neg e,List.map_append]
  refine List.nodup_append.mpr ⟨h,by simp,fun a ha b hb=>?_⟩
  rw [List.map_singleton] at hb
  rw [List.mem_singleton.mp hb]
  exact fun q=>e ((show a=z from q) ▸ ha)
end L2
set_option Elab.async false
set_option linter.all false
set_option maxRecDepth 100000
namespace L2
open PySem PySem.Spec PyProof.Rows
section
variable {X:Cx} {K:PySem.W.Frag} {tg:Expr}
end
end L2
namespace QL
open PySem PySem.Spec PyProof.Rows
theorem bt_max:bootBuiltins "max" = some (.builtin "max"):=by decide +kernel
end QL
set_option Elab.async false
set_option linter.all false
set_option maxRecDepth 100000
namespace L2
open PySem PySem.Spec PyProof.Rows
section
variable {X:Cx} {CX:CXT} {k:Nat} {C:Addr} {ps:List Str} {sp:Sp} {x:Str} {p pos:Pos} {e:Expr} {es:List Expr} {t:TA}
def tMakeX (C:Addr) (sp:Sp) (t:TA):TX:=fun σ H Q E=>t σ H fun vs H1=>∀ x dx,H1 x=none→H1 dx=none→dx≠x→sp (.ref x :: vs) (upd (upd H1 dx (.own x)) x (.ins C dx [])) (fun v H2=>v=.non∧Q (.ref x) H2) E
end
theorem XCls.out {K:PySem.W.Frag} {C:Addr} {bm:List Value} {nid:String} (c:XCls K C bm nid):XOut K C bm nid:=by
 refine ⟨?_⟩
 have q:=c.exc
 unfold PySem.W.excIn at q
 unfold PySem.W.excOut
 revert q
 cases K.lookup C with
 | none=>exact fun q=>q
 | some ob=>
  obtain ⟨ty,dd,data,sl⟩:=ob
  intro q
  split at q
  ·rename_i e
   cases e
   split at q
   ·rename_i hm hs
    simp only [hm,hs]
    simp only [Bool.and_eq_true] at q ⊢
    obtain ⟨⟨⟨⟨⟨a1,a2⟩,a3⟩,a4⟩,a5⟩,_⟩:=q
    exact ⟨⟨⟨⟨a1,a2⟩,a3⟩,a4⟩,a5⟩
   ·cases q
  ·cases q
section
variable {X:Cx} {e:Expr} {tx:TX} {i:Nat} {n x:Str} {D:Addr} {bmD:List Value} {nD:String} {b₀:Stmt} {suite:List Stmt} {epos pos hpos np:Pos} {ts:Addr→TS}
def tTryExO (K:PySem.W.Frag) (D:Addr) (tx:TX) (i:Nat) (ts:Addr→TS):TS:=fun De σ H=>
 tx σ H (fun _ H1=>De.nx σ H1) (fun cls od H'=>∃ C bm nid,cls=.ref C∧XOut K C bm nid∧Under K C D∧∀ ea,H' ea=none →
  ts ea { nx:=fun σ2 H2=>De.nx (σ2.set i none) H2,rt:=De.rt,bk:=fun σ2 H2=>De.bk (σ2.set i none) H2,ct:=fun σ2 H2=>De.ct (σ2.set i none) H2 } (σ.set i (some (.ref ea))) (upd H' ea (xo ea (.ref C) od)))
def tTryEx0 (K:PySem.W.Frag) (D:Addr) (tx:TX) (ts:Addr→TS):TS:=fun De σ H=>
 tx σ H (fun _ H1=>De.nx σ H1) (fun cls od H'=>∃ C bm nid,cls=.ref C∧XOut K C bm nid∧Under K C D∧∀ ea,H' ea=none→ts ea De σ (upd H' ea (xo ea (.ref C) od)))
end
section
variable {X:Cx} {CX:CXT} {k:Nat} {C:Addr} {ps:List Str} {sp:Sp} {m:Str} {pos apos:Pos} {e o:Expr} {es:List Expr} {t:TA} {ta:TE}
end
section
variable {X:Cx}
def rCount:V→List V→Hp→VK→Prop:=fun x xs H Q=>∃ z y,x=.str z∧xs=[.str y]∧Q (.int (Txt.count z y)) H
end
end L2
namespace CtM
open PySem PySem.Builtin PySem.Builtin.Str QL SpM
theorem step_len (c:Nat):∀ (x:List Nat) (rows:List (List Nat)),rows≠[]→(x.foldl (SpM.step c) rows).length=rows.length + x.count c
 | [],rows,_=>by simp
 | d :: x,rows,h=>by
  have h1:SpM.step c rows d≠[]:=by unfold SpM.step;split <;> simp
  rw [List.foldl_cons,step_len c x _ h1,List.count_cons]
  unfold SpM.step
  by_cases e:d=c
  ·rw [if_pos e];subst e;simp;omega
  ·rw [if_neg e]
   have:0 < rows.length:=List.length_pos_iff.mpr h
   simp [e];omega
end CtM
set_option Elab.async false
set_option linter.all false
set_option maxRecDepth 100000
namespace L2
open PySem PySem.Spec PyProof.Rows QL
section
variable {K:PySem.W.Frag} {g:TG} {ti:TT} {te:TE} {σ:St} {H:Hp} {Q:List V→Hp→Prop} {α:Type}
theorem fm_take {as:List α} {f:α→Option V} {i:Nat} {x:α} (hx:as[i]?=some x):(as.take (i + 1)).filterMap f=(as.take i).filterMap f ++ (f x).toList:=by
 rw [List.take_add_one,hx,List.filterMap_append]
 show _ ++ List.filterMap f [x]=_
 cases h:f x <;> simp [h]
theorem fm_len {as:List α} {f:α→Option V} (i:Nat):((as.take i).filterMap f).length≤as.length:=Nat.le_trans (List.length_filterMap_le _ _) (by rw [List.length_take];omega)
theorem fm_some {as:List α} (f:α→V):as.filterMap (fun x=>some (f x))=as.map f:=by induction as with | nil=>rfl | cons x xs ih=>simp
theorem comp_listF {a:Addr} {as:List α} {emb:α→V} {f:α→Option V} (S:St→Prop) (h0:S σ) (hl:∀ H',Same H H'→SqL K H' a (as.map emb)) (hn:as.length≤1000000)
  (hs:∀ (i:Nat) x,as[i]?=some x→∀ σ H' (N1:V→St→Hp→Prop) (N0:St→Hp→Prop),S σ→Same H H'→(∀ v σ2 H2,f x=some v→Same H H2→S σ2→N1 v σ2 H2)→(∀ σ2 H2,f x=none→Same H H2→S σ2→N0 σ2 H2) →
   g (emb x) σ H' fun σ2 H3=>ti σ2 H3 fun b H4=>if b=true then te σ2 H4 fun v H5=>N1 v σ2 H5 else N0 σ2 H4)
  (he:∀ H',Same H H'→Q (as.filterMap f) H'):CompW (Itl K a) g ti te σ H Q:=by
 refine comp_list (xs:=as.map emb) (fun i acc σ H'=>Same H H'∧acc=(as.take i).filterMap f∧i≤as.length∧S σ) ⟨fun _ _ e=>e,rfl,Nat.zero_le _,h0⟩ ?_ ?_ ?_ ?_ ?_
 ·rintro i acc σ H' ⟨_,rfl,_⟩
  have:=fm_len (as:=as) (f:=f) i
  exact line_big (by omega)
 ·rintro i acc σ H' ⟨_,_,h,_⟩
  rw [List.length_map];exact h
 ·rintro i acc σ H' ⟨sm,_⟩
  exact hl _ sm
 ·rintro i x acc σ H' hx ⟨sm,rfl,hi,hS⟩
  have hlt:i < as.length:=by have:=(List.getElem?_eq_some_iff.mp hx).1;rwa [List.length_map] at this
  rw [List.getElem?_map,List.getElem?_eq_getElem hlt] at hx
  cases hx
  have hg:as[i]?=some as[i]:=List.getElem?_eq_getElem hlt
  refine hs i as[i] hg σ H' (fun v σ2 H5=>_) (fun σ2 H4=>_) hS sm (fun v σ2 H2 hf s2 hS2=>⟨s2,?_,hlt,hS2⟩) (fun σ2 H2 hf s2 hS2=>⟨s2,?_,hlt,hS2⟩)
  ·rw [fm_take hg,hf];rfl
  ·rw [fm_take hg,hf];simp
 ·rintro acc σ H' ⟨sm,rfl,_⟩
  have e:(as.take (as.map emb).length).filterMap f=as.filterMap f:=by rw [List.length_map,List.take_length]
  rw [e];exact he _ sm
theorem comp_enumF {a:Addr} {as:List α} {emb:α→V} {f:Nat→α→Option V} (S:St→Prop) (h0:S σ) (hl:∀ H',Same H H'→SqL K H' a (as.map emb)) (hn:as.length≤1000000)
  (hs:∀ (i:Nat) x,as[i]?=some x→∀ σ H' T (N1:V→St→Hp→Prop) (N0:St→Hp→Prop),S σ→Same H H'→H' T=none→(∀ v σ2 H2,f i x=some v→Same H H2→S σ2→N1 v σ2 H2)→(∀ σ2 H2,f i x=none→Same H H2→S σ2→N0 σ2 H2) →
   g (.ref T) σ (upd H' T (.tup [.int (i:Int),emb x])) fun σ2 H3=>ti σ2 H3 fun b H4=>if b=true then te σ2 H4 fun v H5=>N1 v σ2 H5 else N0 σ2 H4)
  (he:∀ H',Same H H'→Q (as.zipIdx.filterMap fun x=>f x.2 x.1) H'):CompW (Ite K a) g ti te σ H Q:=by
 have hzl:as.zipIdx.length=as.length:=List.length_zipIdx
 refine comp_by (J:=Ite K a) (n:=as.length) (fun i acc σ H'=>Same H H'∧acc=(as.zipIdx.take i).filterMap (fun x=>f x.2 x.1)∧i≤as.length∧S σ) ⟨fun _ _ e=>e,rfl,Nat.zero_le _,h0⟩ ?_ ?_ ?_ ?_ ?_ ?_
 ·rintro i acc σ H' ⟨_,rfl,_⟩
  have:=fm_len (as:=as.zipIdx) (f:=fun x=>f x.2 x.1) i
  exact line_big (by omega)
 ·rintro i acc σ H' ⟨_,_,h,_⟩
  exact h
 ·rintro acc σ H' ⟨sm,_⟩
  exact ⟨_,hl _ sm,by rw [List.length_map];exact Nat.le_refl _⟩
 ·rintro i acc σ H' hlt ⟨sm,_⟩
  exact ⟨_,emb as[i],hl _ sm,by rw [List.getElem?_map,List.getElem?_eq_getElem hlt];rfl⟩
 ·rintro i x acc σ H' H2 hlt ⟨sm,rfl,hi,hS⟩ ⟨T,y,rfl,hT,rfl,hy⟩
  have hg:as[i]?=some as[i]:=List.getElem?_eq_getElem hlt
  have hy:=hy _ (hl _ sm)
  rw [List.getElem?_map,hg] at hy
  cases hy
  have hz:as.zipIdx[i]?=some (as[i],i):=by rw [List.getElem?_zipIdx,hg];simp
  refine hs i as[i] hg σ H' T (fun v σ2 H5=>_) (fun σ2 H4=>_) hS sm hT (fun v σ2 H2 hf s2 hS2=>⟨s2,?_,hlt,hS2⟩) (fun σ2 H2 hf s2 hS2=>⟨s2,?_,hlt,hS2⟩)
  ·rw [fm_take hz];simp only [hf];rfl
  ·rw [fm_take hz];simp [hf]
 ·rintro acc σ H' ⟨sm,rfl,_⟩
  have e:(as.zipIdx.take as.length).filterMap (fun x=>f x.2 x.1)=as.zipIdx.filterMap (fun x=>f x.2 x.1):=by rw [← hzl,List.take_length]
  rw [e];exact he _ sm
theorem comp_rangeF {n:Nat} {f:Nat→Option V} (S:St→Prop) (h0:S σ) (hn:n≤1000000)
  (hs:∀ i,i < n→∀ σ H' (N1:V→St→Hp→Prop) (N0:St→Hp→Prop),S σ→Same H H'→(∀ v σ2 H2,f i=some v→Same H H2→S σ2→N1 v σ2 H2)→(∀ σ2 H2,f i=none→Same H H2→S σ2→N0 σ2 H2) →
   g (.int (0 + (i:Int))) σ H' fun σ2 H3=>ti σ2 H3 fun b H4=>if b=true then te σ2 H4 fun v H5=>N1 v σ2 H5 else N0 σ2 H4)
  (he:∀ H',Same H H'→Q ((List.range n).filterMap f) H'):CompW (Itr 0 n) g ti te σ H Q:=by
 refine comp_range (lo:=0) (n:=n) (fun i acc σ H'=>Same H H'∧acc=(List.range i).filterMap f∧i≤n∧S σ) ⟨fun _ _ e=>e,rfl,Nat.zero_le _,h0⟩ ?_ ?_ ?_ ?_
 ·rintro i acc σ H' ⟨_,rfl,hi,_⟩
  have:=List.length_filterMap_le f (List.range i)
  rw [List.length_range] at this
  exact line_big (by omega)
 ·rintro i acc σ H' ⟨_,_,h,_⟩
  exact h
 ·rintro i acc σ H' hi ⟨sm,rfl,_,hS⟩
  refine hs i hi σ H' (fun v σ2 H5=>_) (fun σ2 H4=>_) hS sm (fun v σ2 H2 hf s2 hS2=>⟨s2,?_,hi,hS2⟩) (fun σ2 H2 hf s2 hS2=>⟨s2,?_,hi,hS2⟩)
  ·rw [List.range_succ,List.filterMap_append];simp [hf]
  ·rw [List.range_succ,List.filterMap_append];simp [hf]
 ·rintro acc σ H' ⟨sm,rfl,_⟩
  exact he _ sm
end
end L2
set_option Elab.async false
set_option linter.all false
set_option maxRecDepth 100000
namespace L2
open PySem PySem.Spec PyProof.Rows QL
section
variable {X:Cx}
end
end L2
namespace ThM
open PySem L2
def addNew (ks:List Str) (z:Str):List Str:=if z∈ks then ks else ks ++ [z]
theorem mem_addNew {ks:List Str} {z y:Str}:y∈addNew ks z↔y∈ks∨y=z:=by
 unfold addNew
 split
 ·rename_i h
  exact ⟨.inl,fun q=>q.elim id fun e=>e ▸ h⟩
 ·rw [List.mem_append,List.mem_singleton]
section
variable {α:Type} (f:List α→List α)
def rep:Nat→List α→List α
 | 0,s=>s
 | n + 1,s=>f (rep n s)
variable {f}
end
abbrev NR:=Str × List Str
def useStep (ks:List Str) (r:NR):List Str:=if (∀ z∈r.2,z∈ks) then addNew ks r.1 else ks
def useRound (rs:List NR) (ks:List Str):List Str:=rs.foldl useStep ks
theorem nd_len {ks ms:List Str} (hn:ks.Nodup) (h:∀ z∈ks,z∈ms):ks.length≤ms.length:=by
 induction ks generalizing ms with
 | nil=>exact Nat.zero_le _
 | cons k ks ih=>
  rw [List.nodup_cons] at hn
  have hk:=h k List.mem_cons_self
  have h1:=ih (ms:=ms.erase k) hn.2 fun z hz=>by
   have hne:z≠k:=fun e=>hn.1 (e ▸ hz)
   exact (List.mem_erase_of_ne hne).mpr (h z (List.mem_cons_of_mem _ hz))
  have h2:=List.length_erase_of_mem hk
  have h3:=List.length_pos_of_mem hk
  rw [List.length_cons]
  omega
def useful (rs:List NR):List Str:=rep (useRound rs) rs.length []
end ThM
set_option Elab.async false
set_option linter.all false
set_option maxRecDepth 100000
namespace L2
open PySem PySem.Spec PyProof.Rows QL
section
variable {X:Cx}
end
end L2
set_option Elab.async false
set_option linter.all false
set_option maxRecDepth 100000
namespace ThM
open PySem L2
section
variable {α:Type} {f:List α→List α} (μ:List α→Nat)
end
theorem fold_mem {y:Str}:∀ (zs ks:List Str),y∈zs.foldl addNew ks↔y∈ks∨y∈zs
 | [],ks=>by simp
 | z :: zs,ks=>by
  rw [List.foldl_cons,fold_mem zs,mem_addNew,List.mem_cons]
  exact ⟨fun h=>h.elim (fun h=>h.elim .inl fun e=>.inr (.inl e)) fun h=>.inr (.inr h),fun h=>h.elim (fun h=>.inl (.inl h)) fun h=>h.elim (fun e=>.inl (.inr e)) .inr⟩
def comeStep (ks:List Str) (r:NR):List Str:=if r.1∈ks then r.2.foldl addNew ks else ks
def comeRound (rs:List NR) (ks:List Str):List Str:=rs.foldl comeStep ks
def Done (ks:List Str) (r:NR):Prop:=r.1∈ks∧∀ z∈r.2,z∈ks
instance (ks:List Str) (r:NR):Decidable (Done ks r):=by unfold Done;infer_instance
def comeTo (st:Str) (rs:List NR):List Str:=rep (comeRound rs) rs.length [st]
def ofUse (rs:List NR) (r:NR):Bool:=decide (∀ z∈r.2,z∈useful rs)
def uses (rs:List NR):List NR:=rs.filter (ofUse rs)
def came (st:Str) (rs:List NR):List Str:=comeTo st (uses rs)
def keep (st:Str) (rs:List NR) (r:NR):Bool:=decide (r.1∈came st rs) && ofUse rs r
end ThM
set_option Elab.async false
set_option linter.all false
set_option maxRecDepth 100000
namespace L2
open PySem PySem.Spec PyProof.Rows
section
variable {X:Cx} {body:List Stmt} {h₀:ExceptHandler} {hs:List ExceptHandler} {tb:TS} {pos:Pos}
theorem swaps_list {es:List Expr} {p:Pos} {t:Option Expr} {l:Nat} {env:Env}:swapsWith (.List es p) t l env=pure false:=rfl
end
end L2
set_option Elab.async false
set_option linter.all false
set_option maxRecDepth 100000
namespace L2
open PySem PySem.Spec PyProof.Rows
section
variable {X:Cx} {es:List Expr} {t:TA} {te:TE}
structure WA (X:Cx) (es:List Expr) (t:TA):Prop where
 out:PA X es t
structure WE (X:Cx) (e:Expr) (t:TE):Prop where
 out:PE X e t
structure WB (X:Cx) (b:List Stmt) (t:TS):Prop where
 out:PSs X b t
theorem wa_nil:WA X [] tNil:=⟨pa_nil⟩
theorem wa_S {x:Str} {j:Nat} {p:Pos} (hr:WA X es t):WA X (.Constant (.str x) j p :: es) (tCons (tC (.str x)) t):=⟨pa_consS hr.out⟩
theorem wa_e {e:Expr} (ha:PE X e te) (hr:WA X es t) (hs:starEach (e :: es) X.env=(false,eval e X.env) :: starEach es X.env:=by rfl):WA X (e :: es) (tCons te t):=⟨pa_cons ha hr.out hs⟩
theorem we_lst {p:Pos} (h:WA X es t):WE X (.List es p) (tLst t):=⟨pe_lst h.out⟩
structure WS (X:Cx) (s:Stmt) (t:TS):Prop where
 out:PS X s t
theorem wb_cons {st:Stmt} {rest:List Stmt} {u v:TS} (h1:WS X st u) (h2:PSs X rest v):WB X (st :: rest) (tSeq u v):=⟨pss_cons h1.out h2⟩
theorem pss_consV {st:Stmt} {rest:List Stmt} {u v:TS} (h1:PS X st u) (h2:WB X rest v):PSs X (st :: rest) (tSeq u v):=pss_cons h1 h2.out
end
end L2
set_option Elab.async false
set_option linter.all false
set_option maxRecDepth 100000
namespace L2
open PySem PySem.Spec PyProof.Rows QL
section
variable {X:Cx}
def rDictC:List V→Hp→VK→Prop:=fun xs H Q=>∃ a kvs,xs=[.ref a]∧H a=some (.dK kvs)∧∀ l,H l=none→Q (.ref l) (upd H l (.dK kvs))
def rNeM:R2:=fun x y H Q=>∃ a b kvs,x=.ref a∧y=.ref b∧H a=some (.dK kvs)∧H b=some (.dK kvs)∧(∀ kv∈kvs,flatV kv.2=true∧valV kvs kv.1=some kv.2)∧Q (.bl false) H
end
end L2
set_option Elab.async false
set_option linter.all false
set_option maxRecDepth 100000
namespace PySem
open PySem.Calls PyProof.Rows
section
variable {prog:Program} {w:World} {A:Around} {E:Value→Shared→Prop} {env:Env}
variable {nm q:Str} {C N:Addr} {bs bm:List Value} {hdct:Bool} {sn:List Str} {sub:List Value} {ab:Bool} {col:Option Bool} {dd:Option Addr} {k0 k1 k2 k3 k5:Option Value} {newId:String}
variable {bmB bmN:List Value} {B Bn nid initId inN:String} {K:PySem.W.Frag}
end
end PySem
namespace PySem
section
variable {cp:Value→Prop} {M:Model} {A:Around} {E:Value→Shared→Prop} {s:Shared} {base:Heap} {env:Env} {outer:List Env} {L e:Addr} {Q:Unit→Shared→Prop}
end
end PySem
namespace L2
open PySem PySem.Spec PyProof.Rows
def ExcAtC (ea:Addr) (cls:Value) (od:Option Addr) (h:Heap):Prop:=∃ o vs,h.get? ea=some o∧o.cls=cls∧o.dict=od∧o.data=.fields vs∧vs[2]?=some .none
abbrev xoc (ea:Addr) (cls:Value) (od:Option Addr):HO:=.ext (ExcAtC ea cls od)
section
variable {P:Program} {w:World} {K:PySem.W.Frag} {mg:Str→Option Value} {base:Heap} {N:List Str} {qual:Str} {scope:Scope} {f:Addr} {cd:Value} {A:Around} {outer:List Env} {s:Shared} {H:Hp} {E E1:XK} {CX:CXT}
end
section
variable {X:Cx} {e e₀:Expr} {rest:List Expr} {tx:TX} {t:TA} {x y:Str} {C D:Addr} {bmD:List Value} {nD:String} {rpos pos pos2 hpos np np2 cpos npos:Pos} {kd:Nat} {E:XK}
def tTryNone (K:PySem.W.Frag) (D C:Addr) (E:XK) (tx:TX) (t:TA):TS:=fun De σ H=>
 tx σ H (fun v H1=>De.rt v H1) (fun cls od H'=>∃ C' bm nid,cls=.ref C'∧XOut K C' bm nid∧Under K C' D∧∀ ea,H' ea=none→t σ (upd H' ea (xoc ea (.ref C') od)) fun vs H1=>vs.length≤sizeLine∧H1 ea=some (xoc ea (.ref C') od)∧E (.ref C) none H1)
end
end L2
set_option Elab.async false
set_option linter.all false
set_option maxRecDepth 100000
namespace PySem
open PySem.Calls PyProof.Rows
section
variable {prog:Program} {w:World} {A:Around} {E:Value→Shared→Prop} {env:Env}
variable {nm q:Str} {C N:Addr} {bs bm bmB bmN:List Value} {hdct:Bool} {sn:List Str} {sub:List Value} {ab:Bool} {col:Option Bool} {dd:Option Addr} {k0 k1 k2 k3 k5:Option Value} {newId B Bn nid initId inN:String} {K:PySem.W.Frag}
end
end PySem
namespace L2
open PySem PySem.Spec PyProof.Rows
section
variable {P:Program} {w:World} {K:PySem.W.Frag} {mg:Str→Option Value} {base:Heap} {N:List Str} {qual:Str} {scope:Scope} {f:Addr} {cd:Value} {A:Around} {outer:List Env} {s:Shared} {H:Hp} {E E1:XK}
end
end L2
set_option Elab.async false
set_option linter.all false
set_option maxRecDepth 100000
namespace L2
open PySem PySem.Spec PyProof.Rows
structure RoomQ (k:Nat) (A:Around):Prop where
 dp:A.depth + 3 * k + 5 < recursionLimit
 un:A.units + 16 * k + 200 < cLine
theorem Room.q {k:Nat} {A:Around} (r:Room k A):RoomQ k A:=⟨r.dp,r.un⟩
theorem RoomQ.make {k:Nat} {A:Around} (r:RoomQ (k + 1) A) (C:Addr) (us:List Value) (kw:List (Str × Value)):RoomQ k (A.under (.builtin "type.__call__" ⟨.ref C :: us,kw⟩)):=
 ⟨by have:=r.dp;rw [make_depth];omega,by have:=r.un;rw [make_units];omega⟩
structure FnOkQ (P:Program) (w:World) (K:PySem.W.Frag) (mg:Str→Option Value) (base:Heap) (CX:CXT) (k:Nat) (f:Addr) (fd:FuncData) (ps:List Str) (sp:Sp):Prop where
 len:∀ vs H Q E,sp vs H Q E→vs.length=ps.length
 run:∀ (A:Around) (outer:List Env) (s:Shared) (H:Hp) (args:Args) (us:List Value) (vs:List V) (Q:VK) (E:XK),RoomQ k A→Env0 P w K mg base A outer s H→BindsTo s fd args (ps.zip us)→Vals vs us→sp vs H Q E →
  codeAny (model P w) A (.call (.ref f) args) (CR CX outer P w H s Q E) s
structure XIQ (P:Program) (w:World) (K:PySem.W.Frag) (mg:Str→Option Value) (base:Heap) (k:Nat) (C:Addr) (fn:Str):Prop where
 ex:∃ (bm bmN:List Value) (newId Bn inN B nid initId:String) (fI:Addr) (fd:FuncData) (ps:List Str),XOut K C bm newId∧ExcBaseFacts Bn newId inN bmN∧bm.contains (.type Bn)=true∧ExcBaseFacts B nid initId bm ∧
  PySem.W.findIn K (.ref C) "__init__" = some (some (.ref fI))∧PySem.W.typeIn K (.ref fI)=some (.type "function")∧FnOkQ P w K mg base CX0 k fI fd ps (sp_init C fn)∧Binds K fd ps []
section
variable {X:Cx} {e e₀:Expr} {tx:TX} {t:TA} {x y:Str} {C D:Addr} {fn:Str} {k:Nat} {bmD:List Value} {nD:String} {rpos pos pos2 hpos np np2 cpos npos:Pos} {kd:Nat} {E:XK}
def tTryNoneI (K:PySem.W.Frag) (D C:Addr) (fn:Str) (E:XK) (tx:TX) (t:TA):TS:=fun De σ H=>
 tx σ H (fun v H1=>De.rt v H1) (fun cls od H'=>∃ C' bm nid,cls=.ref C'∧XOut K C' bm nid∧Under K C' D∧∀ ea,H' ea=none→t σ (upd H' ea (xoc ea (.ref C') od)) fun vs H1=>vs.length≤sizeLine∧H1 ea=some (xoc ea (.ref C') od)∧∃ v,vs=[v]∧∀ d,H1 d=none→E (.ref C) (some d) (upd H1 d (.xd [(fn,v)])))
end
end L2
set_option Elab.async false
set_option linter.all false
set_option maxRecDepth 100000
namespace PySem
theorem Heap.FunFrames.same {h h' base:Heap} {l:List Env} (k:∀ b∈l.filterMap (·.frame),h'.get? b=h.get? b) (hl:h.FunFrames base l):h'.FunFrames base l:=by
 induction l with
 | nil=>trivial
 | cons env rest ih=>
  obtain ⟨hk,⟨L,o,hf,hn,ho,hd⟩,hr⟩:=hl
  refine ⟨hk,⟨L,o,hf,hn,?_,hd⟩,ih (fun b hb=>k b ?_) hr⟩
  ·rw [k L (by rw [List.filterMap_cons,hf];exact List.mem_cons_self ..)];exact ho
  ·rw [List.filterMap_cons,hf];exact List.mem_cons_of_mem _ hb
section
variable {cp:Value→Prop} {M:Model} {A:Around} {E:Value→Shared→Prop} {s:Shared} {base:Heap} {env:Env} {outer:List Env} {L e:Addr} {Q:Unit→Shared→Prop}
end
end PySem
namespace L2
open PySem PySem.Spec PyProof.Rows
section
variable {P:Program} {w:World} {K:PySem.W.Frag} {mg:Str→Option Value} {base:Heap} {N:List Str} {qual:Str} {scope:Scope} {f:Addr} {cd:Value} {A:Around} {outer:List Env} {s:Shared} {H:Hp} {E E1:XK}
end
end L2
set_option Elab.async false
set_option linter.all false
set_option maxRecDepth 100000
namespace L2
open PySem PySem.Spec PyProof.Rows
section
variable {X:Cx}
end
end L2
set_option Elab.async false
set_option linter.all false
set_option maxRecDepth 100000
namespace L2
open PySem PySem.Spec PyProof.Rows
section
variable {P:Program} {w:World} {K:PySem.W.Frag} {mg:Str→Option Value} {base:Heap} {N:List Str} {qual:Str} {scope:Scope} {f:Addr} {cd:Value} {A:Around} {outer:List Env} {s:Shared} {H:Hp} {E E1:XK}
end
open QL
section
variable {X:Cx}
def rSplitL:V→List V→Hp→VK→Prop:=fun x xs H Q=>∃ z c,x=.str (tx z)∧xs=[.str ⟨#[c]⟩]∧z.length≤90000∧∀ p,H p=none→Q (.ref p) (upd H p (.lst (rowsV (SpM.parts c z))))
theorem mt_splitL:MtR X "str.split" rSplitL:=by
 intro pins s σ H x xs v us Q I rx rv h
 obtain ⟨z,c,rfl,rfl,hz,q⟩:=h
 obtain ⟨t,rfl⟩:=rx
 obtain ⟨u,rfl,ru⟩:=rv.one
 obtain ⟨t',rfl⟩:=ru
 refine split_push (by rfl) (fun l k hl=>?_) (by rw [tx_length];exact line_le (by omega))
 have hfr:H s.heap.objs.size=none:=I.hok.fresh (Nat.le_refl _)
 have hv:=vals_strs l
 rw [hl,rowsV_parts] at hv
 have hlen:(rowsV (SpM.parts c z)).length≤sizeLine:=by
  have e:=fact_split (tx z) ⟨#[c]⟩
  rw [← rowsV_parts,List.length_map]
  have e2:=e.2
  rw [tx_length] at e2
  exact line_le (by omega)
 refine ⟨.ref s.heap.objs.size,upd H s.heap.objs.size (.lst (rowsV (SpM.parts c z))),I.laid (t':=k) (fun b u e=>Heap.get?_push_of_some _ e) (Nat.le_refl _) ⟨hlen,_,0,hv,Heap.get?_push_size _ rfl⟩,rfl,q _ hfr⟩
end
end L2
set_option Elab.async false
set_option linter.all false
set_option maxRecDepth 100000
namespace L2
open PySem PySem.Spec PyProof.Rows
section
variable {prog:Program} {w:World} {A:Around} {E:Value→Shared→Prop} {s:Shared}
end
def tLenSetL (K:PySem.W.Frag) (t:TE):TE:=fun σ H Q=>t σ H fun x H1=>∃ l ts,x=.ref l∧SqL K H1 l (ts.map V.str)∧ts.length + 1 < scanBound∧Q (.int (met ts).length) H1
section
variable {X:Cx} {e:Expr} {t:TE} {p p2 pos pos2:Pos}
end
end L2
namespace L2
open PySem PySem.Spec PyProof.Rows
def rAny (K:PySem.W.Frag):List V→Hp→VK→Prop:=fun xs H Q=>∃ (p:Addr) (bs:List Bool),xs=[.ref p]∧SqL K H p (bs.map V.bl)∧Q (.bl (bs.any id)) H
end L2
set_option Elab.async false
set_option linter.all false
set_option maxRecDepth 100000
namespace L2
open PySem PySem.Spec PyProof.Rows QL
section
variable {X:Cx}
def rFind:V→List V→Hp→VK→Prop:=fun x xs H Q=>∃ z y,x=.str z∧xs=[.str y]∧∀ i:Int,Q (.int i) H
theorem mt_find:MtR X "str.find" rFind:=by
 intro pins s σ H x xs v us Q I rx rv h
 obtain ⟨z,y,rfl,rfl,q⟩:=h
 obtain ⟨t,rfl⟩:=rx
 obtain ⟨u,rfl,ru⟩:=rv.one
 obtain ⟨t',rfl⟩:=ru
 exact SC.find ⟨.int _,H,I.tok _,⟨_,rfl⟩,q _⟩
def rInsert:V→List V→Hp→VK→Prop:=fun x vs H Q=>∃ l xs i k y,x=.ref l∧vs=[.int i,y]∧H l=some (.lst xs)∧i=((k:Nat):Int)∧k≤xs.length∧xs.length < sizeLine∧Q .non (upd H l (.lst (xs.take k ++ y :: xs.drop k)))
theorem mt_insert:MtM X "list.insert" rInsert:=by
 intro pins s σ H x vs v us Q I rx rv h
 obtain ⟨l,xs,i,k,y,rfl,rfl,hH,hi,hk,hz,q⟩:=h
 cases rx
 obtain ⟨u1,u,rfl,ru1,ru⟩:=rv.two
 obtain ⟨t,rfl⟩:=ru1
 obtain ⟨z,its,n,r,hl,e⟩:=I.lstM hH
 have hz':k < 2 ^ 62:=by
  have h1:xs.length < sizeLine:=hz
  have h2:sizeLine≤2 ^ 62:=by decide +kernel
  omega
 have hp:(2:Nat) ^ 62=4611686018427387904:=by decide
 have hp3:(2:Int) ^ 63=9223372036854775808:=by decide
 rw [hp] at hz'
 refine call_meets F.slot_list_insert ⟨_,e,rfl⟩ F.entry_list_insert (F.args_list_insert_3 _ _ _)
  (AutoSeq1.list_insert_list_int_val_1 l its.toArray n i t u (by rw [fitsIndex_both (by rw [hp3,hi];omega) (by rw [hp3,hi];omega)];decide) (by rw [List.size_toArray];omega)) ⟨e,?_⟩
 refine ⟨.non,_,I.lset (its':=its.take k ++ u :: its.drop k) hH e ?_ ?_ ?_,rfl,q⟩
 ·have hn:¬ i < 0:=by rw [hi];omega
  have hm:min i.toNat its.toArray.size=k:=by rw [hi,List.size_toArray];omega
  show (its.toArray.extract 0 (if i < 0 then (i + (its.toArray.size:Int)).toNat else min i.toNat its.toArray.size)).push u ++ its.toArray.extract (if i < 0 then (i + (its.toArray.size:Int)).toNat else min i.toNat its.toArray.size)=_
  rw [if_neg hn,hm]
  apply Array.ext'
  simp [List.extract_eq_drop_take,List.take_of_length_le]
 ·exact (r.take k).append (.cons ru (r.drop k))
 ·rw [List.length_append,List.length_cons,List.length_take,List.length_drop]
  omega
def rEqT (K:PySem.W.Frag):R2:=fun x y H Q=>∃ ds,Dt.deps ds≤200∧RdD K H (.tup ds) x∧RdD K H (.tup ds) y∧Q (.bl true) H
theorem op_eqT (hu:X.A.units + 210 < cLine):OpR X (compareOp .Eq) (rEqT X.K):=by
 intro pins s σ H x y v u Q I rx ry h
 obtain ⟨ds,hd,h1,h2,q⟩:=h
 have fin:EP X pins σ Q (.bool true) s:=⟨.bl true,H,I,rfl,q⟩
 have item:∀ {xs ys:List V} {its its2:List Value},RdDs X.K H ds xs→RdDs X.K H ds ys→Vals xs its→Vals ys its2→∀ j (h1:j < its.toArray.size) (h2:j < its2.toArray.size),SeqAt.EqAt X.A.in1 s its.toArray[j] its2.toArray[j] true:=fun {xs ys its its2} hxs hys ra rb j g1 g2=>by
  have l1:=ra.length;have l2:=rb.length;have l3:=hxs.length;have l4:=hys.length
  have g1':j < its.length:=by simpa using g1
  have g2':j < its2.length:=by simpa using g2
  have x1:xs[j]?=some xs[j]:=List.getElem?_eq_getElem (by omega)
  have y1:ys[j]?=some ys[j]:=List.getElem?_eq_getElem (by omega)
  obtain ⟨d,e1,rd1⟩:=hxs.get x1
  obtain ⟨d',e2,rd2⟩:=hys.get y1
  rw [e1] at e2;cases e2
  obtain ⟨w1,f1,rr1⟩:=ra.get x1
  obtain ⟨w2,f2,rr2⟩:=rb.get y1
  rw [List.getElem?_eq_getElem g1'] at f1
  rw [List.getElem?_eq_getElem g2'] at f2
  cases f1;cases f2
  have hdep:=deps_get e1
  simp only [List.getElem_toArray]
  exact eqSame I 200 d X.A.in1 (by omega) (by show X.A.units + 1 + 200 < cLine;omega) rd1 rd2 rr1 rr2
 unfold RdD at h1 h2
 obtain ⟨a,xs,rfl,ha,hxs⟩:=h1
 obtain ⟨b,ys,rfl,hb,hys⟩:=h2
 cases rx;cases ry
 obtain ⟨its,ra,pa,_⟩:=I.tuple ha
 obtain ⟨its2,rb,pb,_⟩:=I.tuple hb
 have l1:=ra.length;have l2:=rb.length;have l3:=hxs.length;have l4:=hys.length
 have q:=SeqAt.RcAt.tuples (A:=X.A) (s:=s) (e:=fun _=>true) (show s.heap.IsTuple a its.toArray from pa) (show s.heap.IsTuple b its2.toArray from pb) (by omega) (item hxs hys ra rb)
 have e0:((List.range (min its.toArray.size its2.toArray.size)).all (fun _=>true) && its.toArray.size == its2.toArray.size)=true:=by
  rw [all_true,Bool.true_and];simp;omega
 rw [e0] at q
 exact q _ _ _ _ fin
theorem Room.units210 {k:Nat} {A:Around} (r:Room (k + 1) A):A.units + 210 < cLine:=by have:=r.un;omega
end
theorem Same.sqT {K:PySem.W.Frag} {H H':Hp} {a:Addr} {xs:List V} (e:Same H H') (h:SqT K H a xs):SqT K H' a xs:=by
 rcases h with (h | ⟨o,h⟩) | h
 ·exact .inl (.inl (e _ _ h))
 ·exact .inl (.inr ⟨o,e _ _ h⟩)
 ·exact .inr h
mutual
theorem RdD.up {K:PySem.W.Frag} {H H':Hp} (e:Same H H'):∀ (d:Dt) {v:V},RdD K H d v→RdD K H' d v
 | .non,v,h=>by unfold RdD at h ⊢;exact h
 | .bl b,v,h=>by unfold RdD at h ⊢;exact h
 | .int i,v,h=>by unfold RdD at h ⊢;exact h
 | .str x,v,h=>by unfold RdD at h ⊢;exact h
 | .lst ds,v,h=>by unfold RdD at h ⊢;obtain ⟨a,xs,r,hs,hd⟩:=h;exact ⟨a,xs,r,e.seq hs,RdDs.up e ds hd⟩
 | .tup ds,v,h=>by unfold RdD at h ⊢;obtain ⟨a,xs,r,hs,hd⟩:=h;exact ⟨a,xs,r,e.sqT hs,RdDs.up e ds hd⟩
theorem RdDs.up {K:PySem.W.Frag} {H H':Hp} (e:Same H H'):∀ (ds:List Dt) {xs:List V},RdDs K H ds xs→RdDs K H' ds xs
 | [],xs,h=>by unfold RdDs at h ⊢;exact h
 | d :: ds,xs,h=>by unfold RdDs at h ⊢;obtain ⟨x,r,e0,h1,h2⟩:=h;exact ⟨x,r,e0,RdD.up e d h1,RdDs.up e ds h2⟩
end
end L2
set_option Elab.async false
set_option linter.all false
set_option maxRecDepth 100000
namespace L2
open PySem PySem.Spec PyProof.Rows QL
section
variable {K:PySem.W.Frag} {g:TG} {tb:TS} {D:Ends} {σ:St} {H:Hp}
theorem forw_rev {a:Addr} {xs:List V} (Pv:Nat→St→Hp→Prop) (h0:Pv 0 σ H) (hl:∀ i σ H,i≤xs.length→Pv i σ H→SqL K H a xs)
  (hs:∀ i x σ H,i < xs.length→xs[xs.length - 1 - i]?=some x→Pv i σ H→g x σ H fun σ2 H2=>tb { D with nx:=Pv (i + 1),ct:=Pv (i + 1),bk:=D.nx } σ2 H2) (hd:∀ σ H,Pv xs.length σ H→D.nx σ H):ForW (Itv K a xs.length) g tb D σ H:=by
 refine ⟨fun i m σ H=>Pv i σ H∧i≤xs.length∧m=xs.length + 1 - i,⟨_,h0,Nat.zero_le _,rfl⟩,?_⟩
 rintro i m σ' H' ⟨w,hi,rfl⟩
 rcases Nat.lt_or_ge i xs.length with hlt | hge
 ·refine .inr ⟨⟨xs,xs[xs.length - 1 - i]'(by omega),hl _ _ _ hi w,hlt,List.getElem?_eq_getElem (by omega)⟩,Pv (i + 1),fun σ2 H2 w2=>⟨xs.length + 1 - (i + 1),by omega,w2,hlt,rfl⟩,fun x H2 y=>?_⟩
  obtain ⟨rfl,hx⟩:=y
  exact hs i x σ' H2 hlt (hx xs (hl _ _ _ hi w)) w
 ·have e:i=xs.length:=by omega
  subst e
  exact .inl ⟨rfl,hd _ _ w⟩
end
theorem pe_bm0K {X:Cx} {K:PySem.W.Frag} {o:Expr} {to:TE} {name:Str} {apos cpos:Pos} {T id:String} {r:V→List V→Hp→VK→Prop} (hK:X.K=K) (pa:PlainAttrs T) (slot:Slot T name id) (hty:typeOf (.builtin id)=pure (.type "method_descriptor")) (hm:MtR X id r) (ho:PE X o to)
  (hbase:attributeBase o name X.env (eval o X.env)=eval o X.env:=by rfl) (hline:(apos.endLine == cpos.line)=true:=by rfl):PE X (.Call (.Attribute o name apos) [] [] cpos) (tBM0 K T r to):=hK ▸ pe_bm0 pa slot hty hm ho hbase hline
def TupS (H H':Hp):Prop:=∀ b xs,H b=some (.tup xs)→H' b=some (.tup xs)
theorem TupS.of {H H':Hp} (s:Same H H'):TupS H H':=fun b xs h=>s b _ h
theorem TupS.trans {H H1 H2:Hp} (a:TupS H H1) (b:TupS H1 H2):TupS H H2:=fun c xs h=>b c xs (a c xs h)
theorem TupS.put {H:Hp} {l:Addr} {xs:List V} {o:HO} (h:H l=some (.lst xs)):TupS H (upd H l o):=fun b ys hb=>by
 rw [upd_ne (fun e=>by rw [e,h] at hb;cases hb)];exact hb
mutual
def TrAt (H:Hp):Dt→V→Prop
 | .int i,v=>v=.int i
 | .tup ds,v=>∃ a xs,v=.ref a∧H a=some (.tup xs)∧TrAts H ds xs
 | _,_=>False
def TrAts (H:Hp):List Dt→List V→Prop
 | [],xs=>xs=[]
 | d :: ds,xs=>∃ x r,xs=x :: r∧TrAt H d x∧TrAts H ds r
end
mutual
theorem TrAt.up {H H':Hp} (e:TupS H H'):∀ (d:Dt) {v:V},TrAt H d v→TrAt H' d v
 | .int i,v,h=>by unfold TrAt at h ⊢;exact h
 | .tup ds,v,h=>by unfold TrAt at h ⊢;obtain ⟨a,xs,r,hs,hd⟩:=h;exact ⟨a,xs,r,e _ _ hs,TrAts.up e ds hd⟩
 | .non,v,h=>by unfold TrAt at h;exact h.elim
 | .bl b,v,h=>by unfold TrAt at h;exact h.elim
 | .str x,v,h=>by unfold TrAt at h;exact h.elim
 | .lst ds,v,h=>by unfold TrAt at h;exact h.elim
theorem TrAts.up {H H':Hp} (e:TupS H H'):∀ (ds:List Dt) {xs:List V},TrAts H ds xs→TrAts H' ds xs
 | [],xs,h=>by unfold TrAts at h ⊢;exact h
 | d :: ds,xs,h=>by unfold TrAts at h ⊢;obtain ⟨x,r,e0,h1,h2⟩:=h;exact ⟨x,r,e0,TrAt.up e d h1,TrAts.up e ds h2⟩
end
mutual
theorem TrAt.rd {K:PySem.W.Frag} {H:Hp}:∀ (d:Dt) {v:V},TrAt H d v→RdD K H d v
 | .int i,v,h=>by unfold TrAt at h;unfold RdD;exact h
 | .tup ds,v,h=>by unfold TrAt at h;unfold RdD;obtain ⟨a,xs,r,hs,hd⟩:=h;exact ⟨a,xs,r,SqT.of hs,TrAts.rd ds hd⟩
 | .non,v,h=>by unfold TrAt at h;exact h.elim
 | .bl b,v,h=>by unfold TrAt at h;exact h.elim
 | .str x,v,h=>by unfold TrAt at h;exact h.elim
 | .lst ds,v,h=>by unfold TrAt at h;exact h.elim
theorem TrAts.rd {K:PySem.W.Frag} {H:Hp}:∀ (ds:List Dt) {xs:List V},TrAts H ds xs→RdDs K H ds xs
 | [],xs,h=>by unfold TrAts at h;unfold RdDs;exact h
 | d :: ds,xs,h=>by unfold TrAts at h;unfold RdDs;obtain ⟨x,r,e0,h1,h2⟩:=h;exact ⟨x,r,e0,TrAt.rd d h1,TrAts.rd ds h2⟩
end
theorem TrAts.cons {H:Hp} {d:Dt} {ds:List Dt} {x:V} {xs:List V} (h:TrAt H d x) (t:TrAts H ds xs):TrAts H (d :: ds) (x :: xs):=by unfold TrAts;exact ⟨x,xs,rfl,h,t⟩
theorem TrAts.nil {H:Hp}:TrAts H [] []:=by unfold TrAts;rfl
theorem TrAts.uncons {H:Hp} {d:Dt} {ds:List Dt} {xs:List V} (h:TrAts H (d :: ds) xs):∃ x r,xs=x :: r∧TrAt H d x∧TrAts H ds r:=by unfold TrAts at h;exact h
theorem TrAts.length {H:Hp}:∀ {ds:List Dt} {xs:List V},TrAts H ds xs→xs.length=ds.length
 | [],_,h=>by unfold TrAts at h;rw [h];rfl
 | d :: ds,xs,h=>by
  obtain ⟨x,r,rfl,_,h2⟩:=h.uncons
  simp [TrAts.length h2]
theorem TrAts.app {H:Hp}:∀ {ds es:List Dt} {xs ys:List V},TrAts H ds xs→TrAts H es ys→TrAts H (ds ++ es) (xs ++ ys)
 | [],es,xs,ys,h,k=>by unfold TrAts at h;subst h;exact k
 | d :: ds,es,xs,ys,h,k=>by
  obtain ⟨x,r,rfl,h1,h2⟩:=h.uncons
  exact TrAts.cons h1 (TrAts.app h2 k)
theorem TrAt.node {H:Hp} {a:Addr} {i:Int} {ds:List Dt} {xs:List V} (h:H a=some (.tup (V.int i :: xs))) (t:TrAts H ds xs):TrAt H (.tup (.int i :: ds)) (.ref a):=by
 unfold TrAt
 exact ⟨a,_,rfl,h,TrAts.cons (by unfold TrAt;rfl) t⟩
def pileOf (np:Nat→Nat):List Nat→List Dt
 | []=>[]
 | n :: ns=>.tup (.int (n:Int) :: (pileOf np ns).take (np n)) :: (pileOf np ns).drop (np n)
def fits (np:Nat→Nat):List Nat→Prop
 | []=>True
 | n :: ns=>fits np ns∧np n≤(pileOf np ns).length
theorem deps_take:∀ (k:Nat) (ds:List Dt),Dt.deps (ds.take k)≤Dt.deps ds
 | 0,ds=>by rw [List.take_zero];unfold Dt.deps;exact Nat.zero_le _
 | k + 1,[]=>by rw [List.take_nil];exact Nat.le_refl _
 | k + 1,d :: ds=>by
  have:=deps_take k ds
  rw [List.take_succ_cons]
  unfold Dt.deps
  omega
theorem deps_drop:∀ (k:Nat) (ds:List Dt),Dt.deps (ds.drop k)≤Dt.deps ds
 | 0,ds=>by rw [List.drop_zero];exact Nat.le_refl _
 | k + 1,[]=>by rw [List.drop_nil];exact Nat.le_refl _
 | k + 1,d :: ds=>by
  have:=deps_drop k ds
  rw [List.drop_succ_cons]
  have e:Dt.deps (d :: ds)=max d.dep (Dt.deps ds):=by rw [Dt.deps]
  rw [e]
  omega
theorem pile_deps (np:Nat→Nat):∀ ns:List Nat,Dt.deps (pileOf np ns)≤ns.length
 | []=>by unfold pileOf Dt.deps;exact Nat.zero_le _
 | n :: ns=>by
  have ih:=pile_deps np ns
  have h1:=deps_take (np n) (pileOf np ns)
  have h2:=deps_drop (np n) (pileOf np ns)
  have e0:(Dt.int (n:Int)).dep=0:=by rw [Dt.dep] <;> (intro ds h;cases h)
  rw [pileOf,Dt.deps,Dt.dep,Dt.deps,e0,List.length_cons]
  omega
theorem pile_len {np:Nat→Nat} {n:Nat} {ns:List Nat}:(pileOf np (n :: ns)).length=(pileOf np ns).length - np n + 1:=by
 rw [pileOf,List.length_cons,List.length_drop]
def stepW (np:Nat→Nat) (num:Str→Option Nat) (i:Nat) (w:Str) (wt:List Nat):Option (Nat × List Nat):=
 match num w,wt.getLast? with
 | some n,some d=>if 200≤i∨60 < d then none else some (n,wt.dropLast ++ List.replicate (np n) (d + 1))
 | _,_=>none
def goW (np:Nat→Nat) (num:Str→Option Nat):Nat→List Str→List Nat→Nat ⊕ List Nat
 | i,[],wt=>if wt=[] then .inr [] else .inl i
 | i,w :: ws,wt=>match stepW np num i w wt with
  | none=>.inl i
  | some (n,wt')=>match goW np num (i + 1) ws wt' with
   | .inl j=>.inl j
   | .inr ns=>.inr (n :: ns)
def preW (ns:List Nat):Nat ⊕ List Nat→Nat ⊕ List Nat
 | .inl j=>.inl j
 | .inr ms=>.inr (ns ++ ms)
section
variable {np:Nat→Nat} {num:Str→Option Nat}
theorem go_start (ws:List Str):goW np num 0 ws [1]=preW [] (goW np num 0 (ws.drop 0) [1]):=by
 rw [List.drop_zero]
 cases goW np num 0 ws [1] <;> rfl
theorem go_bad {ws:List Str} {i:Nat} {w:Str} {ns wt:List Nat} {r:Nat ⊕ List Nat} (h:r=preW ns (goW np num i (ws.drop i) wt)) (hw:ws[i]?=some w) (hs:stepW np num i w wt=none):r=.inl i:=by
 have hi:=(List.getElem?_eq_some_iff.mp hw).1
 have he:=(List.getElem?_eq_some_iff.mp hw).2
 rw [List.drop_eq_getElem_cons hi,he,goW,hs] at h
 exact h
theorem go_step {ws:List Str} {i n:Nat} {w:Str} {ns wt wt':List Nat} {r:Nat ⊕ List Nat} (h:r=preW ns (goW np num i (ws.drop i) wt)) (hw:ws[i]?=some w) (hs:stepW np num i w wt=some (n,wt')):r=preW (ns ++ [n]) (goW np num (i + 1) (ws.drop (i + 1)) wt'):=by
 have hi:=(List.getElem?_eq_some_iff.mp hw).1
 have he:=(List.getElem?_eq_some_iff.mp hw).2
 rw [List.drop_eq_getElem_cons hi,he,goW,hs] at h
 rw [h]
 simp only []
 cases goW np num (i + 1) (ws.drop (i + 1)) wt' with
 | inl j=>rfl
 | inr ms=>simp [preW]
theorem go_end {ws:List Str} {ns wt:List Nat} {r:Nat ⊕ List Nat} (h:r=preW ns (goW np num ws.length (ws.drop ws.length) wt)):(wt=[]→r=.inr ns)∧(wt≠[]→r=.inl ws.length):=by
 rw [List.drop_length,goW] at h
 constructor
 ·intro e;rw [if_pos e] at h;rw [h,preW,List.append_nil]
 ·intro e;rw [if_neg e] at h;exact h
theorem step_some {i n:Nat} {w:Str} {wt wt':List Nat} (h:stepW np num i w wt=some (n,wt')):num w=some n∧i < 200∧∃ d,wt.getLast?=some d∧d≤60∧wt'=wt.dropLast ++ List.replicate (np n) (d + 1):=by
 unfold stepW at h
 cases e1:num w with
 | none=>rw [e1] at h;simp at h
 | some m=>
  cases e2:wt.getLast? with
  | none=>rw [e1,e2] at h;simp at h
  | some d=>
   rw [e1,e2] at h
   simp only [] at h
   by_cases hc:200≤i∨60 < d
   ·rw [if_pos hc] at h;cases h
   ·rw [if_neg hc] at h
    cases h
    exact ⟨rfl,by omega,d,rfl,by omega,rfl⟩
theorem go_good:∀ (ws:List Str) (i:Nat) (wt ns:List Nat),goW np num i ws wt=.inr ns→ns.length=ws.length∧(∀ (j:Nat) (w:Str) (n:Nat),ws[j]?=some w→ns[j]?=some n→num w=some n)∧fits np ns∧(pileOf np ns).length=wt.length∧(ns=[]∨i + ns.length≤200)
 | [],i,wt,ns,h=>by
  rw [goW] at h
  by_cases e:wt=[]
  ·rw [if_pos e] at h
   cases h
   subst e
   exact ⟨rfl,fun j w n hw=>by simp at hw,trivial,rfl,.inl rfl⟩
  ·rw [if_neg e] at h;cases h
 | w :: ws,i,wt,ns,h=>by
  rw [goW] at h
  cases hs:stepW np num i w wt with
  | none=>rw [hs] at h;cases h
  | some p=>
   obtain ⟨n,wt'⟩:=p
   rw [hs] at h
   simp only [] at h
   cases hg:goW np num (i + 1) ws wt' with
   | inl j=>rw [hg] at h;cases h
   | inr ms=>
    rw [hg] at h
    cases h
    obtain ⟨h1,h2,h3,h4,h5⟩:=go_good ws (i + 1) wt' ms hg
    obtain ⟨k1,k2,d,k3,k4,k5⟩:=step_some hs
    have hne:wt≠[]:=fun e=>by rw [e] at k3;simp at k3
    have hpos:0 < wt.length:=List.length_pos_iff.mpr hne
    have hl:wt'.length=wt.length - 1 + np n:=by rw [k5,List.length_append,List.length_dropLast,List.length_replicate]
    refine ⟨by simp [h1],fun j w' n' e1 e2=>?_,⟨h3,by omega⟩,by rw [pile_len];omega,.inr ?_⟩
    ·cases j with
     | zero=>simp at e1 e2;subst e1;subst e2;exact k1
     | succ j=>exact h2 j w' n' (by simpa using e1) (by simpa using e2)
    ·rcases h5 with rfl | h5
     ·simp;omega
     ·rw [List.length_cons];omega
end
end L2
set_option Elab.async false
set_option linter.all false
set_option maxRecDepth 100000
set_option maxHeartbeats 4000000
namespace Q18
open PySem L2 Pic QL
local macro_rules | `(tactic| walk_at "wp")=>`(tactic| simp only [tSeq,tB,tNext,tDrop,tRet,tRetN,tIfS,tBreak,tCont,tAsg,gName,gSub,gTup,gCons,gNil,tC,tVar,tOp,tUn,tTest,tNot,tAnd,tOr,tAndV,tOrV,tNotV,tChain,tChain3,tRaise,tTryAs,tRaiseI,tTryAsO,tTryEx,tTryExO,tTryEx0,tTryNone,tTryNoneI,tMakeX,rCount,rClear,rPop,rRep,rInsert,rFind,rEqT,tLenSetL,rAny,rReverse,rExtend,tBM0,sDPut,tDNewK,tDGet2,sFld,tFld,tMake,tMeth,tMethP,tMethX,iEnum,iEnumS,tXFld,sXSet,tCallX,iZip,rSlT,rSplit,rSplitL,rPart,rStarts,rEnds,rIntT,rListS,rListD,rDictC,rNeM,tLenSet,tDisp,tPairs,tDGet,tDIn,tDNotIn,rCat,rAll,rLtT,tCB,tCons,tNil,tCall,tPar,tIf,tLst,tTup,rI0,rI,rU,rEq,rNe,rIxL,rIxT,rIxS,tSl,tNoPart,tPart,rSlL,rSlS,tBM,tJR,rJoin,rAppend,rIsi,rSetL,iRng1,iRng2,iList,iTup,iRev,iStr,tComp,tForw,blkSt,tNoIf,
 L2.start,List.map_cons,List.map_nil,List.length_cons,List.length_nil,List.replicate,List.cons_append,List.nil_append,List.append_nil,Nat.reduceAdd,Nat.reduceSub,List.getElem?_cons_zero,List.getElem?_cons_succ,List.set_cons_zero,List.set_cons_succ,Option.some.injEq,V.int.injEq,V.str.injEq,V.ref.injEq,V.bl.injEq,List.cons.injEq,and_true,true_and,exists_and_left,exists_eq_left',exists_eq_left,decide_eq_true_eq,Bool.not_eq_true',decide_eq_false_iff_not,cxOf,Cx.blk,scal_ii,scal_ss,scal_bb,isClsV,clsV,Option.join_some,Nat.succ_eq_add_one,Nat.zero_add,exists_const,and_assoc,exists_eq,exists_eq',CMul,CDivP,Int.reducePow,Int.reduceNeg,Int.reduceLT,or_true,true_or,reduceCtorEq,Int.zero_add,↓reduceIte,Bool.false_eq_true,Bool.not_true,Bool.not_false,Cx.wish,Cx.nox])
def top (i:Nat):Stmt:=PySem.Challenge.pw_quiltlaw_k18_words_that_write_no_tree.main.body.getD i (.Pass ⟨0,0,0,0⟩)
def clsBody:Stmt→List Stmt
 | .ClassDef (body:=b) ..=>b
 | _=>[]
def meth (i j:Nat):Stmt:=(clsBody (top i)).getD j (.Pass ⟨0,0,0,0⟩)
section
variable {P:Program} {w:World} {K:W.Frag} {mg:Str→Option Value} {base:Heap}
abbrev inT (z:Str) (c:Nat):Bool:=!(Builtin.Str.occurrences z ⟨#[c]⟩ 0 z.length 1).isEmpty
abbrev s_only_of:Stmt:=top 33
def onlyB (r:List Nat) (z:Str):Bool:=r.all (inT z)
def sp_only_of:Sp:=fun vs H Q _=>∃ (r:List Nat) (z:Str),vs=[.str (tx r),.str z]∧r.length≤100000∧∀ H',Same H H'→Q (.bl (onlyB r z)) H'
theorem sc_only_of:FnScope ["text","letters"] ["text","letters"] (defScope s_only_of):=⟨rfl,rfl,rfl,by decide +kernel,rfl,by decide +kernel,by decide +kernel⟩
theorem txg {r:List Nat} {i c:Nat} (h:(tx r).cps[i]?=some c):r[i]?=some c:=by
 rw [← h]
 show r[i]?=r.toArray[i]?
 simp
theorem txs (r:List Nat):(tx r).cps.size=r.length:=by show r.toArray.size=_;simp
theorem ok_only_of {f:Addr} {fd:FuncData} (F:Fun K "only_of" "only_of" s_only_of f fd) (nb:NB mg):FnOk P w K mg base CX0 1 f fd ["text","letters"] sp_only_of:=by
 have sc:=sc_only_of
 refine F.ok sc (fun vs H Q E h=>?_) (fun cdv A outer s H vs Q E hr h=>?_)
 ·obtain ⟨r,z,rfl,_⟩:=h;rfl
 ·obtain ⟨r,z,rfl,hr',q⟩:=h
  refine ⟨_,(pss_one (ps_ret (pe_callB (call_all rfl) rfl nb.all bt_all (pa_cons (pe_comp ["sign"] [1] rfl (CompOk.of (by kernel_rfl)) (by kernel_rfl) (pi_str (pv 0))
    (fun _ _ _ _=>(pg_name (i:=0) (by show (["sign","letters"]:List Str).Nodup;decide +kernel) rfl (Or.inl rfl))) (fun _ _ _ _=>pif_nil) (fun _ _ _ _=>(pe_cmpR op_in_str (pv 0) (pv 1) (by with_unfolding_all rfl)))) pa_nil)))),?_⟩
  walk_at "wp"
  refine comp_str (x:=tx r) (fun i acc σ H'=>H'=H∧acc=((r.take i).map (inT z)).map V.bl∧i≤r.length∧∃ x,σ=[x,some (.str z)]) ⟨rfl,rfl,Nat.zero_le _,_,rfl⟩ ?_ ?_ ?_ ?_
  ·rintro i acc σ H' ⟨_,rfl,hi,_⟩
   rw [List.length_map,List.length_map,List.length_take];exact line_big (by omega)
  ·rintro i acc σ H' ⟨_,_,h,_⟩
   rw [txs];exact h
  ·rintro i c acc σ H' hc ⟨rfl,rfl,hi,y,rfl⟩
   have hc':=txg hc
   have hi':=(List.getElem?_eq_some_iff.mp hc').1
   walk_at "wp"
   refine ⟨?_,hi'⟩
   rw [List.take_add_one,hc']
   simp
  ·rintro acc σ H' ⟨rfl,rfl,_⟩ l hl
   refine ⟨_,SqL.of upd_same,?_⟩
   rw [txs,List.take_length]
   have e:(r.map (inT z)).all id=onlyB r z:=by unfold onlyB;rw [List.all_map];rfl
   rw [e]
   exact q _ (same_upd hl)
abbrev s_is_name:Stmt:=top 34
abbrev CAPS:Str:="ABCDEFGHIJKLMNOPQRSTUVWXYZ"
def nameB (r:List Nat):Bool:=decide (1≤r.length) && decide (r.length≤4) && onlyB r CAPS
def sp_is_name:Sp:=fun vs H Q _=>∃ (r:List Nat),vs=[.str (tx r)]∧r.length≤100000∧∀ H',Same H H'→Q (.bl (nameB r)) H'
theorem sc_is_name:FnScope ["text"] ["text"] (defScope s_is_name):=⟨rfl,rfl,rfl,by decide +kernel,rfl,by decide +kernel,by decide +kernel⟩
theorem ok_is_name {f:Addr} {fd:FuncData} {t1 t2:Tok} (F:Fun K "is_name" "is_name" s_is_name f fd) (nb:NB mg) (m_LONGEST_NAME:mg "LONGEST_NAME" = some (.int 4 t1)) (m_CAPITALS:mg "CAPITALS" = some (.str "ABCDEFGHIJKLMNOPQRSTUVWXYZ" t2)) (c_only_of:Cal P w K mg base CX0 1 "only_of" ["text","letters"] sp_only_of):FnOk P w K mg base CX0 2 f fd ["text"] sp_is_name:=by
 have sc:=sc_is_name
 refine F.ok sc (fun vs H Q E h=>?_) (fun cdv A outer s H vs Q E hr h=>?_)
 ·obtain ⟨r,rfl,_⟩:=h;rfl
 ·obtain ⟨r,rfl,hr',q⟩:=h
  refine ⟨_,(pss_one (ps_ret (pe_and (pe_chain op_le op_le pe_int (pe_callB call_len_str rfl nb.len bt_len (pa_cons (pv 0) pa_nil)) (pe_glob (v:=.int 4) rfl m_LONGEST_NAME ⟨_,rfl⟩)) (pe_one (pe_cal c_only_of (hr.mono (by decide)) rfl pass0 (pa_cons (pv 0) (pa_cons (pe_glob (v:=.str "ABCDEFGHIJKLMNOPQRSTUVWXYZ") rfl m_CAPITALS ⟨_,rfl⟩) pa_nil))))))),?_⟩
  walk_at "wp"
  refine ⟨by rw [tx_length];exact line_le (by omega),?_⟩
  rw [tx_length]
  unfold nameB at q
  by_cases h1:1≤r.length
  ·rw [if_pos (by omega)]
   by_cases h2:r.length≤4
   ·rw [if_pos (by omega)]
    refine ⟨r,_,rfl,hr',fun H' sm=>?_⟩
    have z:=q H' sm
    rw [decide_eq_true h1,decide_eq_true h2] at z
    exact z
   ·rw [if_neg (by omega)]
    have z:=q H (fun _ _ e=>e)
    rw [decide_eq_true h1,decide_eq_false h2] at z
    exact z
  ·rw [if_neg (by omega)]
   have z:=q H (fun _ _ e=>e)
   rw [decide_eq_false h1] at z
   exact z
abbrev s_rule_init:Stmt:=meth 35 0
def sp_rule_init (K:W.Frag) (CF:Addr):Sp:=fun vs H Q E=>∃ (a C dx l:Addr) (n:List Nat) (c:Int) (ps:Pic),vs=[.ref a,.str (tx n),.int c,.ref l]∧H a=some (.ins C dx [])∧Cls K C∧NoAttr K C "name"∧NoAttr K C "cost"∧NoAttr K C "part_names"∧H l=some (.lst (rowsV ps)) ∧
 ps.length≤1000∧(∀ r∈n :: ps,r.length≤100000) ∧
 ((∀ r∈n :: ps,nameB r=true)∧1≤c∧c≤9→∀ H',Same H H'→Q .non (upd H' a (.ins C dx [("name",.str (tx n)),("cost",.int c),("part_names",.ref l)]))) ∧
 (¬ ((∀ r∈n :: ps,nameB r=true)∧1≤c∧c≤9)→∀ H',Same H H'→E (.ref CF) none H')
theorem sc_rule_init:FnScope ["self","name","cost","part_names","text"] ["self","name","cost","part_names"] (defScope s_rule_init):=⟨rfl,rfl,rfl,by decide +kernel,rfl,by decide +kernel,by decide +kernel⟩
theorem ok_rule_init {f zea:Addr} {fd:FuncData} (F:Fun K "__init__" "Rule.__init__" s_rule_init f fd) (nb:NB mg) (zta:mg "NoRule" = some (.ref zea)) (zwa:XR K zea) (c_is_name:Cal P w K mg base CX0 2 "is_name" ["text"] sp_is_name):FnOk P w K mg base (CX1 P w) 3 f fd ["self","name","cost","part_names"] (sp_rule_init K zea):=by
 have sc:=sc_rule_init
 refine F.okX sc (fun vs H Q E h=>?_) (fun cdv A outer s H vs Q E hr h=>?_)
 ·obtain ⟨a,C,dx,l,n,c,ps,rfl,_⟩:=h;rfl
 ·obtain ⟨a,C,dx,l,n,c,ps,rfl,ha,cl,n1,n2,n3,hl,hpl,hrl,good,bad⟩:=h
  refine ⟨_,(pss_cons (ps_forw PassesOwn.leaving rfl (pi_list (pe_op op_cat (pe_lst (pa_cons (pv 1) pa_nil)) (pv 3))) (pg_name (i:=4) sc.nd rfl (Or.inl rfl))
   (pss_one (ps_if (pt_not (pt_tb (pe_cal (CX:=CX1 P w) c_is_name.lift (hr.mono (by decide)) rfl passes_E0 (pa_cons (pv 4) pa_nil)) fun _=>rfl))
   (pss_one (ps_raiseX zwa rfl rfl zta (makes_up fun _ _ _ h=>h) (pa_consS pa_nil)))
   pss_nil)))
   (pss_cons (ps_if (PW.pt (pw_or (pt_cmpR op_lt (pv 2) pe_int (nomark _)) (pw_or1 (pt_cmpR op_gt (pv 2) pe_int (nomark _)))))
   (pss_one (ps_raiseX zwa rfl rfl zta (makes_up fun _ _ _ h=>h) (pa_consS pa_nil)))
   pss_nil)
   (pss_cons (ps_fld (pv 0) (pv 1) rfl)
   (pss_cons (ps_fld (pv 0) (pv 2) rfl)
   (pss_one (ps_fld (pv 0) (pv 3) rfl)))))),?_⟩
  walk_at "wp"
  refine ⟨line_le (by omega),fun p hp=>?_⟩
  have m1:Same H (upd H p (.lst [V.str (tx n)])):=same_upd hp
  have e1:upd H p (.lst [V.str (tx n)]) p=some (.lst [V.str (tx n)]):=upd_same
  generalize upd H p (.lst [V.str (tx n)])=H1 at m1 e1 ⊢
  refine ⟨_,e1,_,m1 _ _ hl,by rw [rowsV_length];exact line_le (by simp;omega),fun p2 hp2=>?_⟩
  have e12:[V.str (tx n)] ++ rowsV ps=rowsV (n :: ps):=rfl
  rw [e12]
  have m2:Same H1 (upd H1 p2 (.lst (rowsV (n :: ps)))):=same_upd hp2
  have e2:upd H1 p2 (.lst (rowsV (n :: ps))) p2=some (.lst (rowsV (n :: ps))):=upd_same
  generalize upd H1 p2 (.lst (rowsV (n :: ps)))=H2 at m2 e2 ⊢
  generalize hqs:n :: ps=qs at hrl good bad e2 ⊢
  have m02:=m1.trans m2
  refine ⟨⟨_,SqL.of e2⟩,forw_list (xs:=rowsV qs) (fun i σ H'=>Same H2 H'∧(∀ r∈qs.take i,nameB r=true)∧∃ x,σ=[some (.ref a),some (.str (tx n)),some (.int c),some (.ref l),x]) ⟨fun _ _ e=>e,by simp,_,rfl⟩ (fun i σ H' _ h=>SqL.of (h.1 _ _ e2)) ?_ ?_⟩
  ·rintro i v σ H' hv ⟨sm,hok,x,rfl⟩
   have hi:i < qs.length:=by have:=(List.getElem?_eq_some_iff.mp hv).1;rwa [rowsV_length] at this
   rw [rowsV_get hi] at hv
   cases hv
   walk_at "wp"
   refine ⟨_,rfl,hrl _ (List.getElem_mem hi),fun H3 sm3=>⟨_,rfl,?_⟩⟩
   by_cases hb:nameB qs[i]=true
   ·rw [if_neg (by rw [hb];decide)]
    refine ⟨sm.trans sm3,fun r hr=>?_⟩
    rw [List.take_add_one,List.getElem?_eq_getElem hi] at hr
    rcases List.mem_append.mp hr with h | h
    ·exact hok r h
    ·rw [show r=qs[i] by simpa using h];exact hb
   ·rw [if_pos (by simpa using hb)]
    exact ⟨line_le (by omega),bad (fun h=>hb (h.1 _ (List.getElem_mem hi))) _ ((m02.trans sm).trans sm3)⟩
  ·rintro σ H' ⟨sm,hok,x,rfl⟩
   rw [rowsV_length,List.take_length] at hok
   have smH:=m02.trans sm
   walk_at "wp"
   by_cases c1:c < 1
   ·rw [if_pos c1]
    exact ⟨line_le (by omega),bad (fun h=>by omega) _ smH⟩
   ·rw [if_neg c1]
    by_cases c9:9 < c
    ·rw [if_pos c9]
     exact ⟨line_le (by omega),bad (fun h=>by omega) _ smH⟩
    ·rw [if_neg c9]
     have g:=good ⟨hok,by omega,by omega⟩ H' smH
     have l1:(putF "name" (V.str (tx n)) []).length≤1:=length_putF _ _ _
     have l2:(putF "cost" (V.int c) (putF "name" (V.str (tx n)) [])).length≤2:=Nat.le_trans (length_putF _ _ _) (by omega)
     have d1:¬ (("name":Str) = "cost"):=by decide +kernel
     have d2:¬ (("name":Str) = "part_names"):=by decide +kernel
     have d3:¬ (("cost":Str) = "part_names"):=by decide +kernel
     have e:putF "part_names" (V.ref l) (putF "cost" (V.int c) (putF "name" (V.str (tx n)) []))=[(("name":Str),V.str (tx n)),(("cost":Str),V.int c),(("part_names":Str),V.ref l)]:=by
      simp only [putF,if_neg d1,if_neg d2,if_neg d3]
     refine ⟨C,dx,[],smH _ _ ha,cl,n1,by simp,C,dx,_,upd_same,cl,n2,by omega,C,dx,_,upd_same,cl,n3,by omega,?_⟩
     rw [upd_upd,upd_upd,e]
     exact g
def SameX (a:Addr) (H H':Hp):Prop:=∀ b o,b≠a→H b=some o→H' b=some o
theorem SameX.of {a:Addr} {H H':Hp} (s:Same H H'):SameX a H H':=fun b o _ e=>s b o e
theorem SameX.put {a:Addr} {H H':Hp} {o:HO} (s:SameX a H H'):SameX a H (upd H' a o):=fun b u hb e=>by rw [upd_ne hb];exact s b u hb e
theorem SameX.then {a:Addr} {H H' H2:Hp} (s:SameX a H H') (t:Same H' H2):SameX a H H2:=fun b u hb e=>t b u (s b u hb e)
theorem SameX.trans {a:Addr} {H H' H2:Hp} (s:SameX a H H') (t:SameX a H' H2):SameX a H H2:=fun b u hb e=>t b u hb (s b u hb e)
abbrev SMLS:Str:="abcdefghijklmnopqrstuvwxyz"
def signB (r:List Nat):Bool:=decide (r.length=1) && onlyB r SMLS
def ruleOk (n:List Nat) (ps:Pic) (c:Int):Prop:=(∀ r∈n :: ps,nameB r=true)∧1≤c∧c≤9
abbrev s_cell_init:Stmt:=meth 36 0
def sp_cell_init (K:W.Frag) (CF:Addr):Sp:=fun vs H Q E=>∃ (a C dx:Addr) (n sg:List Nat) (c:Int),vs=[.ref a,.str (tx n),.int c,.str (tx sg)]∧H a=some (.ins C dx [])∧Cls K C∧(NoAttr K C "name"∧NoAttr K C "cost"∧NoAttr K C "part_names"∧NoAttr K C "sign")∧n.length≤100000∧sg.length≤100000 ∧
 (ruleOk n [] c∧signB sg=true→∀ (l:Addr) (H':Hp),SameX a H H'→H l=none→H' l=some (.lst [])→H' a=some (.ins C dx [("name",.str (tx n)),("cost",.int c),("part_names",.ref l),("sign",.str (tx sg))])→Q .non H') ∧
 (¬ (ruleOk n [] c∧signB sg=true)→∀ H',SameX a H H'→E (.ref CF) none H')
theorem sc_cell_init:FnScope ["self","name","cost","sign"] ["self","name","cost","sign"] (defScope s_cell_init):=⟨rfl,rfl,rfl,by decide +kernel,rfl,by decide +kernel,by decide +kernel⟩
theorem ok_cell_init {f zea:Addr} {fd:FuncData} {t3:Tok} (F:Fun K "__init__" "CellRule.__init__" s_cell_init f fd) (nb:NB mg) (m_SMALLS:mg "SMALLS" = some (.str "abcdefghijklmnopqrstuvwxyz" t3)) (zta:mg "NoRule" = some (.ref zea)) (zwa:XR K zea)
  (c_only_of:Cal P w K mg base CX0 1 "only_of" ["text","letters"] sp_only_of) (zha:CalC P w K mg base (CX1 P w) 3 "Rule" "__init__" ["self","name","cost","part_names"] (sp_rule_init K zea)):FnOk P w K mg base (CX1 P w) 4 f fd ["self","name","cost","sign"] (sp_cell_init K zea):=by
 have sc:=sc_cell_init
 refine F.okX sc (fun vs H Q E h=>?_) (fun cdv A outer s H vs Q E hr h=>?_)
 ·obtain ⟨a,C,dx,n,sg,c,rfl,_⟩:=h;rfl
 ·obtain ⟨a,C,dx,n,sg,c,rfl,ha,cl,⟨n1,n2,n3,n4⟩,hn,hsg,good,bad⟩:=h
  refine ⟨_,(pss_cons (ps_expr (pe_calC (E:=E) zha (hr.mono (by decide)) rfl (passes_up fun _ _ _ h=>h) (pa_cons (pv 0) (pa_cons (pv 1) (pa_cons (pv 2) (pa_cons (pe_lst pa_nil) pa_nil))))))
   (pss_cons (ps_if (PW.pt (pw_or (pt_cmpR op_ne (pe_callB call_len_str rfl nb.len bt_len (pa_cons (pv 3) pa_nil)) pe_int (nomark _)) (pw_or1 (pt_not (pt_tb (pe_cal (CX:=CX1 P w) c_only_of.lift (hr.mono (by decide)) rfl passes_E0 (pa_cons (pv 3) (pa_cons (pe_glob (v:=.str "abcdefghijklmnopqrstuvwxyz") rfl m_SMALLS ⟨_,rfl⟩) pa_nil))) fun _=>rfl)))))
   (pss_one (ps_raiseX zwa rfl rfl zta (makes_up fun _ _ _ h=>h) (pa_consS pa_nil)))
   pss_nil)
   (pss_one (ps_fld (pv 0) (pv 3) rfl)))),?_⟩
  walk_at "wp"
  refine ⟨Nat.zero_le _,fun l hl=>?_⟩
  have m1:Same H (upd H l (.lst [])):=same_upd hl
  have e1:upd H l (.lst []) l=some (.lst []):=upd_same
  generalize upd H l (.lst [])=H1 at m1 e1 ⊢
  have hla:l≠a:=fun e=>by rw [e,ha] at hl;cases hl
  refine ⟨a,C,dx,l,n,c,[],rfl,m1 _ _ ha,cl,n1,n2,n3,e1,by simp,fun r hr=>by rw [show r=n by simpa using hr];exact hn,fun ok H2 sm2=>?_,fun nok H2 sm2=>bad (fun h=>nok h.1) _ (.of (m1.trans sm2))⟩
  have sx:SameX a H (upd H2 a (.ins C dx [("name",.str (tx n)),("cost",.int c),("part_names",.ref l)])):=(SameX.of (m1.trans sm2)).put
  have ea:upd H2 a (.ins C dx [("name",.str (tx n)),("cost",.int c),("part_names",.ref l)]) a=some (.ins C dx [("name",.str (tx n)),("cost",.int c),("part_names",.ref l)]):=upd_same
  have el:upd H2 a (.ins C dx [("name",.str (tx n)),("cost",.int c),("part_names",.ref l)]) l=some (.lst []):=by rw [upd_ne hla];exact sm2 _ _ e1
  generalize upd H2 a (.ins C dx [("name",.str (tx n)),("cost",.int c),("part_names",.ref l)])=H3 at sx ea el ⊢
  dsimp only
  have sgl:signB sg=true→sg.length=1∧onlyB sg SMLS=true:=fun h=>by
   unfold signB at h
   rw [Bool.and_eq_true,decide_eq_true_eq] at h
   exact h
  refine ⟨by rw [tx_length];exact line_le (by omega),?_⟩
  rw [tx_length]
  by_cases h1:(sg.length:Int)=1
  ·rw [if_neg (fun h=>h h1)]
   refine ⟨sg,_,rfl,hsg,fun H4 sm4=>⟨_,rfl,?_⟩⟩
   by_cases hb:onlyB sg SMLS=true
   ·rw [if_neg (by rw [hb];decide)]
    have d1:¬ (("name":Str) = "sign"):=by decide +kernel
    have d2:¬ (("cost":Str) = "sign"):=by decide +kernel
    have d3:¬ (("part_names":Str) = "sign"):=by decide +kernel
    have e:putF "sign" (V.str (tx sg)) [(("name":Str),V.str (tx n)),(("cost":Str),V.int c),(("part_names":Str),V.ref l)]=[(("name":Str),V.str (tx n)),(("cost":Str),V.int c),(("part_names":Str),V.ref l),(("sign":Str),V.str (tx sg))]:=by
     simp only [putF,if_neg d1,if_neg d2,if_neg d3]
    refine ⟨C,dx,_,sm4 _ _ ea,cl,n4,by simp,?_⟩
    rw [e]
    exact good ⟨ok,by unfold signB;rw [decide_eq_true (by omega),hb];rfl⟩ l _ (sx.then sm4).put hl (by rw [upd_ne hla];exact sm4 _ _ el) upd_same
   ·rw [if_pos (by simpa using hb)]
    exact ⟨line_le (by omega),bad (fun h=>hb (sgl h.2).2) _ (sx.then sm4)⟩
  ·rw [if_pos h1]
   exact ⟨line_le (by omega),bad (fun h=>h1 (by have:=(sgl h.2).1;omega)) _ sx⟩
def sp_pair_init (K:W.Frag) (CF:Addr):Sp:=fun vs H Q E=>∃ (a C dx:Addr) (n o1 o2:List Nat) (c:Int),vs=[.ref a,.str (tx n),.int c,.str (tx o1),.str (tx o2)]∧H a=some (.ins C dx [])∧Cls K C∧(NoAttr K C "name"∧NoAttr K C "cost"∧NoAttr K C "part_names"∧NoAttr K C "one"∧NoAttr K C "other")∧n.length≤100000∧o1.length≤100000∧o2.length≤100000 ∧
 (ruleOk n [o1,o2] c→∀ (l:Addr) (H':Hp),SameX a H H'→H l=none→H' l=some (.lst (rowsV [o1,o2]))→H' a=some (.ins C dx [("name",.str (tx n)),("cost",.int c),("part_names",.ref l),("one",.str (tx o1)),("other",.str (tx o2))])→Q .non H') ∧
 (¬ ruleOk n [o1,o2] c→∀ H',SameX a H H'→E (.ref CF) none H')
theorem pair_put {n o1 o2:List Nat} {c:Int} {l:Addr}:putF "other" (V.str (tx o2)) (putF "one" (V.str (tx o1)) [(("name":Str),V.str (tx n)),(("cost":Str),V.int c),(("part_names":Str),V.ref l)])=[(("name":Str),V.str (tx n)),(("cost":Str),V.int c),(("part_names":Str),V.ref l),(("one":Str),V.str (tx o1)),(("other":Str),V.str (tx o2))]:=by
 have d1:¬ (("name":Str) = "one"):=by decide +kernel
 have d2:¬ (("cost":Str) = "one"):=by decide +kernel
 have d3:¬ (("part_names":Str) = "one"):=by decide +kernel
 have d4:¬ (("name":Str) = "other"):=by decide +kernel
 have d5:¬ (("cost":Str) = "other"):=by decide +kernel
 have d6:¬ (("part_names":Str) = "other"):=by decide +kernel
 have d7:¬ (("one":Str) = "other"):=by decide +kernel
 simp only [putF,if_neg d1,if_neg d2,if_neg d3,if_neg d4,if_neg d5,if_neg d6,if_neg d7]
abbrev s_beside_init:Stmt:=meth 37 0
theorem sc_beside_init:FnScope ["self","name","cost","one","other"] ["self","name","cost","one","other"] (defScope s_beside_init):=⟨rfl,rfl,rfl,by decide +kernel,rfl,by decide +kernel,by decide +kernel⟩
theorem ok_beside_init {f zea:Addr} {fd:FuncData} (F:Fun K "__init__" "BesideRule.__init__" s_beside_init f fd) (nb:NB mg)
  (zha:CalC P w K mg base (CX1 P w) 3 "Rule" "__init__" ["self","name","cost","part_names"] (sp_rule_init K zea)):FnOk P w K mg base (CX1 P w) 4 f fd ["self","name","cost","one","other"] (sp_pair_init K zea):=by
 have sc:=sc_beside_init
 refine F.okX sc (fun vs H Q E h=>?_) (fun cdv A outer s H vs Q E hr h=>?_)
 ·obtain ⟨a,C,dx,n,o1,o2,c,rfl,_⟩:=h;rfl
 ·obtain ⟨a,C,dx,n,o1,o2,c,rfl,ha,cl,⟨n1,n2,n3,n4,n5⟩,hn,ho1,ho2,good,bad⟩:=h
  refine ⟨_,(pss_cons (ps_expr (pe_calC (E:=E) zha (hr.mono (by decide)) rfl (passes_up fun _ _ _ h=>h) (pa_cons (pv 0) (pa_cons (pv 1) (pa_cons (pv 2) (pa_cons (pe_lst (pa_cons (pv 3) (pa_cons (pv 4) pa_nil))) pa_nil))))))
   (pss_cons (ps_fld (pv 0) (pv 3) rfl)
   (pss_one (ps_fld (pv 0) (pv 4) rfl)))),?_⟩
  walk_at "wp"
  refine ⟨line_le (by omega),fun l hl=>?_⟩
  have m1:Same H (upd H l (.lst [V.str (tx o1),V.str (tx o2)])):=same_upd hl
  have e1:upd H l (.lst [V.str (tx o1),V.str (tx o2)]) l=some (.lst (rowsV [o1,o2])):=upd_same
  generalize upd H l (.lst [V.str (tx o1),V.str (tx o2)])=H1 at m1 e1 ⊢
  have hla:l≠a:=fun e=>by rw [e,ha] at hl;cases hl
  refine ⟨a,C,dx,l,n,c,[o1,o2],rfl,m1 _ _ ha,cl,n1,n2,n3,e1,by simp,fun r hr=>?_,fun ok H2 sm2=>?_,fun nok H2 sm2=>bad (fun h=>nok h) _ (.of (m1.trans sm2))⟩
  ·have h3:r=n∨r=o1∨r=o2:=by simpa using hr
   rcases h3 with rfl | rfl | rfl
   ·exact hn
   ·exact ho1
   ·exact ho2
  ·have sx:SameX a H (upd H2 a (.ins C dx [("name",.str (tx n)),("cost",.int c),("part_names",.ref l)])):=(SameX.of (m1.trans sm2)).put
   have ea:upd H2 a (.ins C dx [("name",.str (tx n)),("cost",.int c),("part_names",.ref l)]) a=some (.ins C dx [("name",.str (tx n)),("cost",.int c),("part_names",.ref l)]):=upd_same
   have el:upd H2 a (.ins C dx [("name",.str (tx n)),("cost",.int c),("part_names",.ref l)]) l=some (.lst (rowsV [o1,o2])):=by rw [upd_ne hla];exact sm2 _ _ e1
   generalize upd H2 a (.ins C dx [("name",.str (tx n)),("cost",.int c),("part_names",.ref l)])=H3 at sx ea el ⊢
   dsimp only
   refine ⟨C,dx,_,ea,cl,n4,by simp,C,dx,_,upd_same,cl,n5,?_,?_⟩
   ·exact Nat.lt_of_le_of_lt (length_putF _ _ _) (by simp)
   ·rw [upd_upd,pair_put]
    exact good ok l _ sx.put hl (by rw [upd_ne hla];exact el) upd_same
abbrev s_above_init:Stmt:=meth 38 0
theorem sc_above_init:FnScope ["self","name","cost","one","other"] ["self","name","cost","one","other"] (defScope s_above_init):=⟨rfl,rfl,rfl,by decide +kernel,rfl,by decide +kernel,by decide +kernel⟩
theorem ok_above_init {f zea:Addr} {fd:FuncData} (F:Fun K "__init__" "AboveRule.__init__" s_above_init f fd) (nb:NB mg)
  (zha:CalC P w K mg base (CX1 P w) 3 "Rule" "__init__" ["self","name","cost","part_names"] (sp_rule_init K zea)):FnOk P w K mg base (CX1 P w) 4 f fd ["self","name","cost","one","other"] (sp_pair_init K zea):=by
 have sc:=sc_above_init
 refine F.okX sc (fun vs H Q E h=>?_) (fun cdv A outer s H vs Q E hr h=>?_)
 ·obtain ⟨a,C,dx,n,o1,o2,c,rfl,_⟩:=h;rfl
 ·obtain ⟨a,C,dx,n,o1,o2,c,rfl,ha,cl,⟨n1,n2,n3,n4,n5⟩,hn,ho1,ho2,good,bad⟩:=h
  refine ⟨_,(pss_cons (ps_expr (pe_calC (E:=E) zha (hr.mono (by decide)) rfl (passes_up fun _ _ _ h=>h) (pa_cons (pv 0) (pa_cons (pv 1) (pa_cons (pv 2) (pa_cons (pe_lst (pa_cons (pv 3) (pa_cons (pv 4) pa_nil))) pa_nil))))))
   (pss_cons (ps_fld (pv 0) (pv 3) rfl)
   (pss_one (ps_fld (pv 0) (pv 4) rfl)))),?_⟩
  walk_at "wp"
  refine ⟨line_le (by omega),fun l hl=>?_⟩
  have m1:Same H (upd H l (.lst [V.str (tx o1),V.str (tx o2)])):=same_upd hl
  have e1:upd H l (.lst [V.str (tx o1),V.str (tx o2)]) l=some (.lst (rowsV [o1,o2])):=upd_same
  generalize upd H l (.lst [V.str (tx o1),V.str (tx o2)])=H1 at m1 e1 ⊢
  have hla:l≠a:=fun e=>by rw [e,ha] at hl;cases hl
  refine ⟨a,C,dx,l,n,c,[o1,o2],rfl,m1 _ _ ha,cl,n1,n2,n3,e1,by simp,fun r hr=>?_,fun ok H2 sm2=>?_,fun nok H2 sm2=>bad (fun h=>nok h) _ (.of (m1.trans sm2))⟩
  ·have h3:r=n∨r=o1∨r=o2:=by simpa using hr
   rcases h3 with rfl | rfl | rfl
   ·exact hn
   ·exact ho1
   ·exact ho2
  ·have sx:SameX a H (upd H2 a (.ins C dx [("name",.str (tx n)),("cost",.int c),("part_names",.ref l)])):=(SameX.of (m1.trans sm2)).put
   have ea:upd H2 a (.ins C dx [("name",.str (tx n)),("cost",.int c),("part_names",.ref l)]) a=some (.ins C dx [("name",.str (tx n)),("cost",.int c),("part_names",.ref l)]):=upd_same
   have el:upd H2 a (.ins C dx [("name",.str (tx n)),("cost",.int c),("part_names",.ref l)]) l=some (.lst (rowsV [o1,o2])):=by rw [upd_ne hla];exact sm2 _ _ e1
   generalize upd H2 a (.ins C dx [("name",.str (tx n)),("cost",.int c),("part_names",.ref l)])=H3 at sx ea el ⊢
   dsimp only
   refine ⟨C,dx,_,ea,cl,n4,by simp,C,dx,_,upd_same,cl,n5,?_,?_⟩
   ·exact Nat.lt_of_le_of_lt (length_putF _ _ _) (by simp)
   ·rw [upd_upd,pair_put]
    exact good ok l _ sx.put hl (by rw [upd_ne hla];exact el) upd_same
def sp_turn_init (K:W.Frag) (CF:Addr):Sp:=fun vs H Q E=>∃ (a C dx:Addr) (n o1:List Nat) (c t:Int),vs=[.ref a,.str (tx n),.int c,.str (tx o1),.int t]∧H a=some (.ins C dx [])∧Cls K C∧(NoAttr K C "name"∧NoAttr K C "cost"∧NoAttr K C "part_names"∧NoAttr K C "part"∧NoAttr K C "turning")∧n.length≤100000∧o1.length≤100000 ∧
 (ruleOk n [o1] c∧0≤t∧t≤7→∀ (l:Addr) (H':Hp),SameX a H H'→H l=none→H' l=some (.lst (rowsV [o1]))→H' a=some (.ins C dx [("name",.str (tx n)),("cost",.int c),("part_names",.ref l),("part",.str (tx o1)),("turning",.int t)])→Q .non H') ∧
 (¬ (ruleOk n [o1] c∧0≤t∧t≤7)→∀ H',SameX a H H'→E (.ref CF) none H')
theorem turn_put {n o1:List Nat} {c t:Int} {l:Addr}:putF "turning" (V.int t) (putF "part" (V.str (tx o1)) [(("name":Str),V.str (tx n)),(("cost":Str),V.int c),(("part_names":Str),V.ref l)])=[(("name":Str),V.str (tx n)),(("cost":Str),V.int c),(("part_names":Str),V.ref l),(("part":Str),V.str (tx o1)),(("turning":Str),V.int t)]:=by
 have d1:¬ (("name":Str) = "part"):=by decide +kernel
 have d2:¬ (("cost":Str) = "part"):=by decide +kernel
 have d3:¬ (("part_names":Str) = "part"):=by decide +kernel
 have d4:¬ (("name":Str) = "turning"):=by decide +kernel
 have d5:¬ (("cost":Str) = "turning"):=by decide +kernel
 have d6:¬ (("part_names":Str) = "turning"):=by decide +kernel
 have d7:¬ (("part":Str) = "turning"):=by decide +kernel
 simp only [putF,if_neg d1,if_neg d2,if_neg d3,if_neg d4,if_neg d5,if_neg d6,if_neg d7]
abbrev s_turn_init:Stmt:=meth 39 0
theorem sc_turn_init:FnScope ["self","name","cost","part","turning"] ["self","name","cost","part","turning"] (defScope s_turn_init):=⟨rfl,rfl,rfl,by decide +kernel,rfl,by decide +kernel,by decide +kernel⟩
theorem ok_turn_init {f zea:Addr} {fd:FuncData} (F:Fun K "__init__" "TurnRule.__init__" s_turn_init f fd) (nb:NB mg) (zta:mg "NoRule" = some (.ref zea)) (zwa:XR K zea)
  (zha:CalC P w K mg base (CX1 P w) 3 "Rule" "__init__" ["self","name","cost","part_names"] (sp_rule_init K zea)):FnOk P w K mg base (CX1 P w) 4 f fd ["self","name","cost","part","turning"] (sp_turn_init K zea):=by
 have sc:=sc_turn_init
 refine F.okX sc (fun vs H Q E h=>?_) (fun cdv A outer s H vs Q E hr h=>?_)
 ·obtain ⟨a,C,dx,n,o1,c,t,rfl,_⟩:=h;rfl
 ·obtain ⟨a,C,dx,n,o1,c,t,rfl,ha,cl,⟨n1,n2,n3,n4,n5⟩,hn,ho1,good,bad⟩:=h
  refine ⟨_,(pss_cons (ps_expr (pe_calC (E:=E) zha (hr.mono (by decide)) rfl (passes_up fun _ _ _ h=>h) (pa_cons (pv 0) (pa_cons (pv 1) (pa_cons (pv 2) (pa_cons (pe_lst (pa_cons (pv 3) pa_nil)) pa_nil))))))
   (pss_cons (ps_if (PW.pt (pw_or (pt_cmpR op_lt (pv 4) pe_int (nomark _)) (pw_or1 (pt_cmpR op_gt (pv 4) pe_int (nomark _)))))
   (pss_one (ps_raiseX zwa rfl rfl zta (makes_up fun _ _ _ h=>h) (pa_consS pa_nil)))
   pss_nil)
   (pss_cons (ps_fld (pv 0) (pv 3) rfl)
   (pss_one (ps_fld (pv 0) (pv 4) rfl))))),?_⟩
  walk_at "wp"
  refine ⟨line_le (by omega),fun l hl=>?_⟩
  have m1:Same H (upd H l (.lst [V.str (tx o1)])):=same_upd hl
  have e1:upd H l (.lst [V.str (tx o1)]) l=some (.lst (rowsV [o1])):=upd_same
  generalize upd H l (.lst [V.str (tx o1)])=H1 at m1 e1 ⊢
  have hla:l≠a:=fun e=>by rw [e,ha] at hl;cases hl
  refine ⟨a,C,dx,l,n,c,[o1],rfl,m1 _ _ ha,cl,n1,n2,n3,e1,by simp,fun r hr=>?_,fun ok H2 sm2=>?_,fun nok H2 sm2=>bad (fun h=>nok h.1) _ (.of (m1.trans sm2))⟩
  ·have h3:r=n∨r=o1:=by simpa using hr
   rcases h3 with rfl | rfl
   ·exact hn
   ·exact ho1
  ·have sx:SameX a H (upd H2 a (.ins C dx [("name",.str (tx n)),("cost",.int c),("part_names",.ref l)])):=(SameX.of (m1.trans sm2)).put
   have ea:upd H2 a (.ins C dx [("name",.str (tx n)),("cost",.int c),("part_names",.ref l)]) a=some (.ins C dx [("name",.str (tx n)),("cost",.int c),("part_names",.ref l)]):=upd_same
   have el:upd H2 a (.ins C dx [("name",.str (tx n)),("cost",.int c),("part_names",.ref l)]) l=some (.lst (rowsV [o1])):=by rw [upd_ne hla];exact sm2 _ _ e1
   generalize upd H2 a (.ins C dx [("name",.str (tx n)),("cost",.int c),("part_names",.ref l)])=H3 at sx ea el ⊢
   dsimp only
   by_cases t0:t < 0
   ·rw [if_pos t0]
    exact ⟨line_le (by omega),bad (fun h=>by omega) _ sx⟩
   ·rw [if_neg t0]
    by_cases t7:7 < t
    ·rw [if_pos t7]
     exact ⟨line_le (by omega),bad (fun h=>by omega) _ sx⟩
    ·rw [if_neg t7]
     refine ⟨C,dx,_,ea,cl,n4,by simp,C,dx,_,upd_same,cl,n5,?_,?_⟩
     ·exact Nat.lt_of_le_of_lt (length_putF _ _ _) (by simp)
     ·rw [upd_upd,turn_put]
      exact good ⟨ok,by omega,by omega⟩ l _ sx.put hl (by rw [upd_ne hla];exact el) upd_same
abbrev s_rule_parts:Stmt:=meth 35 1
def sp_rule_parts (K:W.Frag):Sp:=fun vs H Q _=>∃ (a C dx l:Addr) (fs:List (Str × V)) (ps:Pic),vs=[.ref a]∧H a=some (.ins C dx fs)∧Cls K C∧NoAttr K C "part_names"∧fs.lookup ("part_names":Str)=some (V.ref l)∧H l=some (.lst (rowsV ps))∧GivesPic H ps Q
theorem sc_rule_parts:FnScope ["self"] ["self"] (defScope s_rule_parts):=⟨rfl,rfl,rfl,by decide +kernel,rfl,by decide +kernel,by decide +kernel⟩
theorem ok_rule_parts {f:Addr} {fd:FuncData} (F:Fun K "parts" "Rule.parts" s_rule_parts f fd) (nb:NB mg):FnOk P w K mg base CX0 1 f fd ["self"] (sp_rule_parts K):=by
 have sc:=sc_rule_parts
 refine F.ok sc (fun vs H Q E h=>?_) (fun cdv A outer s H vs Q E hr h=>?_)
 ·obtain ⟨a,C,dx,l,fs,ps,rfl,_⟩:=h;rfl
 ·obtain ⟨a,C,dx,l,fs,ps,rfl,ha,cl,n1,lk,hl,q⟩:=h
  refine ⟨_,(pss_one (ps_ret (pe_callTy call_list_of rfl nb.list bt_list (pa_cons (pe_fld (pv 0) rfl) pa_nil)))),?_⟩
  walk_at "wp"
  refine ⟨C,dx,fs,ha,cl,n1,V.ref l,lk,l,rfl,_,.inl (SqL.of hl),fun l' hl'=>q l' _ hl' upd_same (same_upd hl')⟩
abbrev s_rule_head:Stmt:=meth 35 2
def headS (n:List Nat) (c:Int):Str:=tx n ++ (" ":Str) ++ (toString c:String) ++ (": ":Str)
def sp_rule_head (K:W.Frag):Sp:=fun vs H Q _=>∃ (a C dx:Addr) (fs:List (Str × V)) (n:List Nat) (c:Int),vs=[.ref a]∧H a=some (.ins C dx fs)∧Cls K C∧NoAttr K C "name"∧NoAttr K C "cost"∧fs.lookup ("name":Str)=some (V.str (tx n))∧fs.lookup ("cost":Str)=some (V.int c)∧n.length≤1000∧1≤c∧c≤9∧Q (.str (headS n c)) H
theorem sc_rule_head:FnScope ["self"] ["self"] (defScope s_rule_head):=⟨rfl,rfl,rfl,by decide +kernel,rfl,by decide +kernel,by decide +kernel⟩
theorem ok_rule_head {f:Addr} {fd:FuncData} (F:Fun K "head" "Rule.head" s_rule_head f fd) (nb:NB mg):FnOk P w K mg base CX0 1 f fd ["self"] (sp_rule_head K):=by
 have sc:=sc_rule_head
 refine F.ok sc (fun vs H Q E h=>?_) (fun cdv A outer s H vs Q E hr h=>?_)
 ·obtain ⟨a,C,dx,fs,n,c,rfl,_⟩:=h;rfl
 ·obtain ⟨a,C,dx,fs,n,c,rfl,ha,cl,n1,n2,l1,l2,hn,c1,c9,q⟩:=h
  refine ⟨_,(pss_one (ps_ret (pe_op op_add_str (pe_op op_add_str (pe_op op_add_str (pe_fld (pv 0) rfl) pe_str) (pe_callTy call_str_int rfl nb.str bt_str (pa_cons (pe_fld (pv 0) rfl) pa_nil))) pe_str))),?_⟩
  walk_at "wp"
  have la:∀ x y:Str,(x ++ y).length=x.length + y.length:=fun x y=>by show (x.cps ++ y.cps).size=x.cps.size + y.cps.size;simp
  have hc:c=1∨c=2∨c=3∨c=4∨c=5∨c=6∨c=7∨c=8∨c=9:=by omega
  have hd:(Str.ofString (toString c)).length≤10∧c.natAbs.log2 < 1920:=by
   rcases hc with rfl | rfl | rfl | rfl | rfl | rfl | rfl | rfl | rfl <;> decide +kernel
  have s1:(Str.ofString " ").length=1:=rfl
  have s2:(Str.ofString ": ").length=2:=rfl
  refine ⟨C,dx,fs,ha,cl,n1,_,l1,_,rfl,by rw [tx_length,s1];exact line_le (by omega),C,dx,fs,ha,cl,n2,_,l2,c,rfl,hd.2,?_,?_,q⟩
  ·rw [la,tx_length,s1];exact line_le (by omega)
  ·rw [la,la,tx_length,s1,s2];exact line_le (by omega)
abbrev cellF (n:List Nat) (c:Int) (l:Addr) (sg:List Nat):List (Str × V):=[("name",.str (tx n)),("cost",.int c),("part_names",.ref l),("sign",.str (tx sg))]
abbrev pairF (n:List Nat) (c:Int) (l:Addr) (o1 o2:List Nat):List (Str × V):=[("name",.str (tx n)),("cost",.int c),("part_names",.ref l),("one",.str (tx o1)),("other",.str (tx o2))]
abbrev turnF (n:List Nat) (c:Int) (l:Addr) (o1:List Nat) (t:Int):List (Str × V):=[("name",.str (tx n)),("cost",.int c),("part_names",.ref l),("part",.str (tx o1)),("turning",.int t)]
theorem str_la (x y:Str):(x ++ y).length=x.length + y.length:=by show (x.cps ++ y.cps).size=x.cps.size + y.cps.size;simp
theorem dig1 {c:Int} (h0:0≤c) (h9:c≤9):(Str.ofString (toString c)).length=1∧c.natAbs.log2 < 1920:=by
 have hc:c=0∨c=1∨c=2∨c=3∨c=4∨c=5∨c=6∨c=7∨c=8∨c=9:=by omega
 rcases hc with rfl | rfl | rfl | rfl | rfl | rfl | rfl | rfl | rfl | rfl <;> decide +kernel
theorem headS_len {n:List Nat} {c:Int} (h0:0≤c) (h9:c≤9):(headS n c).length=n.length + 4:=by
 unfold headS
 rw [str_la,str_la,str_la,tx_length,(dig1 h0 h9).1]
 rfl
abbrev s_cell_told:Stmt:=meth 36 6
def sp_cell_told (C:Addr):Sp:=fun vs H Q _=>∃ (a dx l:Addr) (n sg:List Nat) (c:Int),vs=[.ref a]∧H a=some (.ins C dx (cellF n c l sg))∧n.length≤1000∧sg.length≤1000∧1≤c∧c≤9∧Q (.str (headS n c ++ tx sg)) H
theorem sc_cell_told:FnScope ["self"] ["self"] (defScope s_cell_told):=⟨rfl,rfl,rfl,by decide +kernel,rfl,by decide +kernel,by decide +kernel⟩
theorem ok_cell_told {f C:Addr} {fd:FuncData} (F:Fun K "told" "CellRule.told" s_cell_told f fd) (cl:Cls K C) (na:NoAttr K C "name"∧NoAttr K C "cost"∧NoAttr K C "part_names"∧NoAttr K C "sign")
  (cm_head:CalM P w K mg base CX0 1 C "head" ["self"] (sp_rule_head K)):FnOk P w K mg base CX0 2 f fd ["self"] (sp_cell_told C):=by
 have sc:=sc_cell_told
 refine F.ok sc (fun vs H Q E h=>?_) (fun cdv A outer s H vs Q E hr h=>?_)
 ·obtain ⟨a,dx,l,n,sg,c,rfl,_⟩:=h;rfl
 ·obtain ⟨a,dx,l,n,sg,c,rfl,ha,hn,hs,c1,c9,q⟩:=h
  refine ⟨_,(pss_one (ps_ret (pe_op op_add_str (pe_calM0 cm_head (hr.mono (by decide)) pass0 (pv 0)) (pe_fld (pv 0) rfl)))),?_⟩
  walk_at "wp"
  refine ⟨dx,_,ha,rfl,a,C,dx,_,n,c,rfl,ha,cl,na.1,na.2.1,rfl,rfl,hn,c1,c9,?_⟩
  dsimp only
  refine ⟨C,dx,_,ha,cl,na.2.2.2,_,rfl,_,rfl,_,rfl,?_,q⟩
  rw [headS_len (by omega) c9,tx_length];exact line_le (by omega)
theorem str_bar:(Str.ofString " | ").length=3:=rfl
theorem str_slash:(Str.ofString " / ").length=3:=rfl
theorem str_turned:(Str.ofString " turned ").length=8:=rfl
def sp_pair_told (C:Addr) (z:Str):Sp:=fun vs H Q _=>∃ (a dx l:Addr) (n o1 o2:List Nat) (c:Int),vs=[.ref a]∧H a=some (.ins C dx (pairF n c l o1 o2))∧n.length≤1000∧o1.length≤1000∧o2.length≤1000∧1≤c∧c≤9∧Q (.str (headS n c ++ tx o1 ++ z ++ tx o2)) H
abbrev s_beside_told:Stmt:=meth 37 6
theorem sc_beside_told:FnScope ["self"] ["self"] (defScope s_beside_told):=⟨rfl,rfl,rfl,by decide +kernel,rfl,by decide +kernel,by decide +kernel⟩
theorem ok_beside_told {f C:Addr} {fd:FuncData} (F:Fun K "told" "BesideRule.told" s_beside_told f fd) (cl:Cls K C) (na:NoAttr K C "name"∧NoAttr K C "cost"∧NoAttr K C "part_names"∧NoAttr K C "one"∧NoAttr K C "other")
  (cm_head:CalM P w K mg base CX0 1 C "head" ["self"] (sp_rule_head K)):FnOk P w K mg base CX0 2 f fd ["self"] (sp_pair_told C " | "):=by
 have sc:=sc_beside_told
 refine F.ok sc (fun vs H Q E h=>?_) (fun cdv A outer s H vs Q E hr h=>?_)
 ·obtain ⟨a,dx,l,n,o1,o2,c,rfl,_⟩:=h;rfl
 ·obtain ⟨a,dx,l,n,o1,o2,c,rfl,ha,hn,h1,h2,c1,c9,q⟩:=h
  refine ⟨_,(pss_one (ps_ret (pe_op op_add_str (pe_op op_add_str (pe_op op_add_str (pe_calM0 cm_head (hr.mono (by decide)) pass0 (pv 0)) (pe_fld (pv 0) rfl)) pe_str) (pe_fld (pv 0) rfl)))),?_⟩
  walk_at "wp"
  refine ⟨dx,_,ha,rfl,a,C,dx,_,n,c,rfl,ha,cl,na.1,na.2.1,rfl,rfl,hn,c1,c9,?_⟩
  dsimp only
  refine ⟨C,dx,_,ha,cl,na.2.2.2.1,_,rfl,_,rfl,_,rfl,?_,?_,C,dx,_,ha,cl,na.2.2.2.2,_,rfl,_,rfl,?_,q⟩
  ·rw [headS_len (by omega) c9,tx_length];exact line_le (by omega)
  ·rw [str_la,headS_len (by omega) c9,tx_length,str_bar];exact line_le (by omega)
  ·rw [str_la,str_la,headS_len (by omega) c9,tx_length,tx_length,str_bar];exact line_le (by omega)
abbrev s_above_told:Stmt:=meth 38 6
theorem sc_above_told:FnScope ["self"] ["self"] (defScope s_above_told):=⟨rfl,rfl,rfl,by decide +kernel,rfl,by decide +kernel,by decide +kernel⟩
theorem ok_above_told {f C:Addr} {fd:FuncData} (F:Fun K "told" "AboveRule.told" s_above_told f fd) (cl:Cls K C) (na:NoAttr K C "name"∧NoAttr K C "cost"∧NoAttr K C "part_names"∧NoAttr K C "one"∧NoAttr K C "other")
  (cm_head:CalM P w K mg base CX0 1 C "head" ["self"] (sp_rule_head K)):FnOk P w K mg base CX0 2 f fd ["self"] (sp_pair_told C " / "):=by
 have sc:=sc_above_told
 refine F.ok sc (fun vs H Q E h=>?_) (fun cdv A outer s H vs Q E hr h=>?_)
 ·obtain ⟨a,dx,l,n,o1,o2,c,rfl,_⟩:=h;rfl
 ·obtain ⟨a,dx,l,n,o1,o2,c,rfl,ha,hn,h1,h2,c1,c9,q⟩:=h
  refine ⟨_,(pss_one (ps_ret (pe_op op_add_str (pe_op op_add_str (pe_op op_add_str (pe_calM0 cm_head (hr.mono (by decide)) pass0 (pv 0)) (pe_fld (pv 0) rfl)) pe_str) (pe_fld (pv 0) rfl)))),?_⟩
  walk_at "wp"
  refine ⟨dx,_,ha,rfl,a,C,dx,_,n,c,rfl,ha,cl,na.1,na.2.1,rfl,rfl,hn,c1,c9,?_⟩
  dsimp only
  refine ⟨C,dx,_,ha,cl,na.2.2.2.1,_,rfl,_,rfl,_,rfl,?_,?_,C,dx,_,ha,cl,na.2.2.2.2,_,rfl,_,rfl,?_,q⟩
  ·rw [headS_len (by omega) c9,tx_length];exact line_le (by omega)
  ·rw [str_la,headS_len (by omega) c9,tx_length,str_slash];exact line_le (by omega)
  ·rw [str_la,str_la,headS_len (by omega) c9,tx_length,tx_length,str_slash];exact line_le (by omega)
def sp_turn_told (C:Addr):Sp:=fun vs H Q _=>∃ (a dx l:Addr) (n o1:List Nat) (c t:Int),vs=[.ref a]∧H a=some (.ins C dx (turnF n c l o1 t))∧n.length≤1000∧o1.length≤1000∧1≤c∧c≤9∧0≤t∧t≤7∧Q (.str (headS n c ++ tx o1 ++ " turned " ++ (toString t:String))) H
abbrev s_turn_told:Stmt:=meth 39 6
theorem sc_turn_told:FnScope ["self"] ["self"] (defScope s_turn_told):=⟨rfl,rfl,rfl,by decide +kernel,rfl,by decide +kernel,by decide +kernel⟩
theorem ok_turn_told {f C:Addr} {fd:FuncData} (F:Fun K "told" "TurnRule.told" s_turn_told f fd) (nb:NB mg) (cl:Cls K C) (na:NoAttr K C "name"∧NoAttr K C "cost"∧NoAttr K C "part_names"∧NoAttr K C "part"∧NoAttr K C "turning")
  (cm_head:CalM P w K mg base CX0 1 C "head" ["self"] (sp_rule_head K)):FnOk P w K mg base CX0 2 f fd ["self"] (sp_turn_told C):=by
 have sc:=sc_turn_told
 refine F.ok sc (fun vs H Q E h=>?_) (fun cdv A outer s H vs Q E hr h=>?_)
 ·obtain ⟨a,dx,l,n,o1,c,t,rfl,_⟩:=h;rfl
 ·obtain ⟨a,dx,l,n,o1,c,t,rfl,ha,hn,h1,c1,c9,t0,t7,q⟩:=h
  refine ⟨_,(pss_one (ps_ret (pe_op op_add_str (pe_op op_add_str (pe_op op_add_str (pe_calM0 cm_head (hr.mono (by decide)) pass0 (pv 0)) (pe_fld (pv 0) rfl)) pe_str) (pe_callTy call_str_int rfl nb.str bt_str (pa_cons (pe_fld (pv 0) rfl) pa_nil))))),?_⟩
  walk_at "wp"
  refine ⟨dx,_,ha,rfl,a,C,dx,_,n,c,rfl,ha,cl,na.1,na.2.1,rfl,rfl,hn,c1,c9,?_⟩
  dsimp only
  have d1:=dig1 t0 (show t≤9 by omega)
  refine ⟨C,dx,_,ha,cl,na.2.2.2.1,_,rfl,_,rfl,_,rfl,?_,?_,C,dx,_,ha,cl,na.2.2.2.2,_,rfl,t,rfl,d1.2,?_,q⟩
  ·rw [headS_len (by omega) c9,tx_length];exact line_le (by omega)
  ·rw [str_la,headS_len (by omega) c9,tx_length,str_turned];exact line_le (by omega)
  ·rw [str_la,str_la,headS_len (by omega) c9,tx_length,d1.1,str_turned];exact line_le (by omega)
theorem nameB_len {r:List Nat} (h:nameB r=true):1≤r.length∧r.length≤4:=by
 unfold nameB at h
 rw [Bool.and_eq_true,Bool.and_eq_true,decide_eq_true_eq,decide_eq_true_eq] at h
 exact h.1
theorem signB_len {r:List Nat} (h:signB r=true):r.length=1:=by
 unfold signB at h
 rw [Bool.and_eq_true,decide_eq_true_eq] at h
 exact h.1
theorem seq_cut {a b:TS} {D:Ends} {σ:St} {H:Hp} (h:∀ N:St→Hp→Prop,(∀ σ2 H2,b D σ2 H2→N σ2 H2)→a { D with nx:=N } σ H):tSeq a b D σ H:=h (b D) fun _ _ z=>z
abbrev s_l_whole:Stmt:=top 50
def sp_l_whole:Sp:=fun vs H Q _=>∃ (i:Int),vs=[.int i]∧Q (.bl true) H
theorem sc_l_whole:FnScope ["_law_found"] ["_law_found"] (defScope s_l_whole):=⟨rfl,rfl,rfl,by decide +kernel,rfl,by decide +kernel,by decide +kernel⟩
theorem ok_l_whole {f:Addr} {fd:FuncData} (F:Fun K "_law_whole" "_law_whole" s_l_whole f fd) (nb:NB mg):FnOk P w K mg base CX0 1 f fd ["_law_found"] sp_l_whole:=by
 have sc:=sc_l_whole
 refine F.ok sc (fun vs H Q E h=>?_) (fun cdv A outer s H vs Q E hr h=>?_)
 ·obtain ⟨i,rfl,_⟩:=h;rfl
 ·obtain ⟨i,rfl,q⟩:=h
  refine ⟨_,(pss_one (ps_ret (pe_and (pe_callB call_isinstance rfl nb.isinstance bt_isinstance (pa_cons (pv 0) (pa_cons (pe_bltn (v:=.ty "int") rfl nb.int bt_int rfl) pa_nil))) (pe_one (pe_not (pe_callB call_isinstance rfl nb.isinstance bt_isinstance (pa_cons (pv 0) (pa_cons (pe_bltn (v:=.ty "bool") rfl nb.bool bt_bool rfl) pa_nil)))))))),?_⟩
  walk_at "wp"
  refine ⟨_,TyOf.int i,_,kit_same K _,?_⟩
  walk_at "wp"
  refine ⟨_,TyOf.int i,_,kit_int_bool K,?_⟩
  exact q
structure RV where
 n:List Nat
 c:Int
 o1:List Nat
 o2:List Nat
 sg:List Nat
 t:Int
structure RC where
 rr:Addr
 cc:Addr
 cb:Addr
 ca:Addr
 ct:Addr
def RC.at (R:RC) (k:Nat):Addr:=match k with | 0=>R.cc | 1=>R.cb | 2=>R.ca | _=>R.ct
def fldK (k:Nat) (l:Addr) (v:RV):List (Str × V):=match k with | 0=>cellF v.n v.c l v.sg | 1=>pairF v.n v.c l v.o1 v.o2 | 2=>pairF v.n v.c l v.o1 v.o2 | _=>turnF v.n v.c l v.o1 v.t
def partsK (k:Nat) (v:RV):Pic:=match k with | 0=>[] | 1=>[v.o1,v.o2] | 2=>[v.o1,v.o2] | _=>[v.o1]
def okR (k:Nat) (v:RV):Prop:=match k with | 0=>ruleOk v.n [] v.c∧signB v.sg=true | 1=>ruleOk v.n [v.o1,v.o2] v.c | 2=>ruleOk v.n [v.o1,v.o2] v.c | _=>ruleOk v.n [v.o1] v.c∧0≤v.t∧v.t≤7
structure RV.small (v:RV):Prop where
 n:v.n.length≤1000
 o1:v.o1.length≤1000
 o2:v.o2.length≤1000
 sg:v.sg.length≤1000
structure RV.good (v:RV):Prop where
 n:nameB v.n=true
 c1:1≤v.c
 c9:v.c≤9
 o1:nameB v.o1=true
 o2:nameB v.o2=true
 sg:signB v.sg=true
 t0:0≤v.t
 t7:v.t≤7
theorem RV.good.small {v:RV} (g:v.good):v.small:=⟨by have:=nameB_len g.n;omega,by have:=nameB_len g.o1;omega,by have:=nameB_len g.o2;omega,by have:=signB_len g.sg;omega⟩
theorem RV.good.ok {v:RV} (g:v.good):∀ k,okR k v
 | 0=>⟨⟨fun r hr=>by rw [show r=v.n by simpa using hr];exact g.n,g.c1,g.c9⟩,g.sg⟩
 | 1=>⟨fun r hr=>by rcases (show r=v.n∨r=v.o1∨r=v.o2 by simpa using hr) with rfl | rfl | rfl <;> first | exact g.n | exact g.o1 | exact g.o2,g.c1,g.c9⟩
 | 2=>⟨fun r hr=>by rcases (show r=v.n∨r=v.o1∨r=v.o2 by simpa using hr) with rfl | rfl | rfl <;> first | exact g.n | exact g.o1 | exact g.o2,g.c1,g.c9⟩
 | _ + 3=>⟨⟨fun r hr=>by rcases (show r=v.n∨r=v.o1 by simpa using hr) with rfl | rfl <;> first | exact g.n | exact g.o1,g.c1,g.c9⟩,g.t0,g.t7⟩
def RuleAt (R:RC) (H:Hp) (k:Nat) (a:Addr) (v:RV):Prop:=∃ dx l,H a=some (.ins (R.at k) dx (fldK k l v))∧H l=some (.lst (rowsV (partsK k v)))
theorem RuleAt.up {R:RC} {H H':Hp} {k:Nat} {a:Addr} {v:RV} (r:RuleAt R H k a v) (s:Same H H'):RuleAt R H' k a v:=by
 obtain ⟨dx,l,h1,h2⟩:=r
 exact ⟨dx,l,s _ _ h1,s _ _ h2⟩
structure RKit (K:W.Frag) (R:RC):Prop where
 i0:ICls K R.cc
 i1:ICls K R.cb
 i2:ICls K R.ca
 i3:ICls K R.ct
 a0:NoAttr K R.cc "name"∧NoAttr K R.cc "cost"∧NoAttr K R.cc "part_names"∧NoAttr K R.cc "sign"
 a1:NoAttr K R.cb "name"∧NoAttr K R.cb "cost"∧NoAttr K R.cb "part_names"∧NoAttr K R.cb "one"∧NoAttr K R.cb "other"
 a2:NoAttr K R.ca "name"∧NoAttr K R.ca "cost"∧NoAttr K R.ca "part_names"∧NoAttr K R.ca "one"∧NoAttr K R.ca "other"
 a3:NoAttr K R.ct "name"∧NoAttr K R.ct "cost"∧NoAttr K R.ct "part_names"∧NoAttr K R.ct "part"∧NoAttr K R.ct "turning"
 r0:W.kitOne K (.ref R.cc) (.ref R.rr)=some true
 r1:W.kitOne K (.ref R.cb) (.ref R.rr)=some true
 r2:W.kitOne K (.ref R.ca) (.ref R.rr)=some true
 r3:W.kitOne K (.ref R.ct) (.ref R.rr)=some true
 s0:W.kitOne K (.ref R.cc) (.ref R.cc)=some true
 s1:W.kitOne K (.ref R.cb) (.ref R.cb)=some true
 s2:W.kitOne K (.ref R.ca) (.ref R.ca)=some true
 s3:W.kitOne K (.ref R.ct) (.ref R.ct)=some true
theorem RKit.icls {R:RC} (rk:RKit K R):∀ k,ICls K (R.at k)
 | 0=>rk.i0
 | 1=>rk.i1
 | 2=>rk.i2
 | _ + 3=>rk.i3
theorem RKit.rule {R:RC} (rk:RKit K R):∀ k,W.kitOne K (.ref (R.at k)) (.ref R.rr)=some true
 | 0=>rk.r0
 | 1=>rk.r1
 | 2=>rk.r2
 | _ + 3=>rk.r3
theorem RKit.name {R:RC} (rk:RKit K R):∀ k,NoAttr K (R.at k) "name"∧NoAttr K (R.at k) "cost"∧NoAttr K (R.at k) "part_names"
 | 0=>⟨rk.a0.1,rk.a0.2.1,rk.a0.2.2.1⟩
 | 1=>⟨rk.a1.1,rk.a1.2.1,rk.a1.2.2.1⟩
 | 2=>⟨rk.a2.1,rk.a2.2.1,rk.a2.2.2.1⟩
 | _ + 3=>⟨rk.a3.1,rk.a3.2.1,rk.a3.2.2.1⟩
theorem fldK_lk (l:Addr) (v:RV):∀ k,(fldK k l v).lookup ("name":Str)=some (V.str (tx v.n))∧(fldK k l v).lookup ("cost":Str)=some (V.int v.c)∧(fldK k l v).lookup ("part_names":Str)=some (V.ref l)∧(fldK k l v).lookup ("parts":Str)=none∧(fldK k l v).lookup ("told":Str)=none
 | 0=>⟨rfl,rfl,rfl,rfl,rfl⟩
 | 1=>⟨rfl,rfl,rfl,rfl,rfl⟩
 | 2=>⟨rfl,rfl,rfl,rfl,rfl⟩
 | _ + 3=>⟨rfl,rfl,rfl,rfl,rfl⟩
theorem sameX_new {H1 H2:Hp} {x dx:Addr} {o o':HO} (hx:H1 x=none) (hd:H1 dx=none) (s:SameX x (upd (upd H1 dx o) x o') H2):Same H1 H2:=
 fun b u e=>s b u (ne_of_none e hx) (by rw [upd_ne (ne_of_none e hx),upd_ne (ne_of_none e hd)];exact e)
theorem calP4 {CX:CXT} {k:Nat} {m:Str} {C0 C1 C2 C3:Addr} {s0 s1 s2 s3:Sp} (h0:∃ ps,CalM P w K mg base CX k C0 m ps s0) (h1:∃ ps,CalM P w K mg base CX k C1 m ps s1) (h2:∃ ps,CalM P w K mg base CX k C2 m ps s2) (h3:∃ ps,CalM P w K mg base CX k C3 m ps s3) :
  CalP P w K mg base CX k m [(C0,s0),(C1,s1),(C2,s2),(C3,s3)]:=⟨fun o ho=>by
 simp only [List.mem_cons,List.not_mem_nil,or_false] at ho
 rcases ho with rfl | rfl | rfl | rfl
 ·exact h0
 ·exact h1
 ·exact h2
 ·exact h3⟩
def toldS (k:Nat) (v:RV):Str:=match k with
 | 0=>headS v.n v.c ++ tx v.sg
 | 1=>headS v.n v.c ++ tx v.o1 ++ " | " ++ tx v.o2
 | 2=>headS v.n v.c ++ tx v.o1 ++ " / " ++ tx v.o2
 | _=>headS v.n v.c ++ tx v.o1 ++ " turned " ++ (toString v.t:String)
def oTold (R:RC):List (Addr × Sp):=[(R.cc,sp_cell_told R.cc),(R.cb,sp_pair_told R.cb " | "),(R.ca,sp_pair_told R.ca " / "),(R.ct,sp_turn_told R.ct)]
theorem told_any {R:RC} {H:Hp} {k a} {v:RV} {Q:VK} {E:XK} (r:RuleAt R H k a v) (ok:okR k v) (sm:v.small) (q:Q (.str (toldS k v)) H) :
  ∃ o∈oTold R,∃ dx fs,H a=some (.ins o.1 dx fs)∧fs.lookup ("told":Str)=none∧o.2 [.ref a] H Q E:=by
 obtain ⟨dx,l,h1,_⟩:=r
 match k,ok,h1,q with
 | 0,ok,h1,q=>exact ⟨(R.cc,sp_cell_told R.cc),by simp [oTold],dx,_,h1,rfl,a,dx,l,v.n,v.sg,v.c,rfl,h1,sm.n,sm.sg,ok.1.2.1,ok.1.2.2,q⟩
 | 1,ok,h1,q=>exact ⟨(R.cb,sp_pair_told R.cb " | "),by simp [oTold],dx,_,h1,rfl,a,dx,l,v.n,v.o1,v.o2,v.c,rfl,h1,sm.n,sm.o1,sm.o2,ok.2.1,ok.2.2,q⟩
 | 2,ok,h1,q=>exact ⟨(R.ca,sp_pair_told R.ca " / "),by simp [oTold],dx,_,h1,rfl,a,dx,l,v.n,v.o1,v.o2,v.c,rfl,h1,sm.n,sm.o1,sm.o2,ok.2.1,ok.2.2,q⟩
 | _ + 3,ok,h1,q=>exact ⟨(R.ct,sp_turn_told R.ct),by simp [oTold],dx,_,h1,rfl,a,dx,l,v.n,v.o1,v.c,v.t,rfl,h1,sm.n,sm.o1,ok.1.2.1,ok.1.2.2,ok.2.1,ok.2.2,q⟩
def oParts (K:W.Frag) (R:RC):List (Addr × Sp):=[(R.cc,sp_rule_parts K),(R.cb,sp_rule_parts K),(R.ca,sp_rule_parts K),(R.ct,sp_rule_parts K)]
theorem parts_any {R:RC} {H:Hp} {k a} {v:RV} {Q:VK} {E:XK} (rk:RKit K R) (r:RuleAt R H k a v) (q:GivesPic H (partsK k v) Q) :
  ∃ o∈oParts K R,∃ dx fs,H a=some (.ins o.1 dx fs)∧fs.lookup ("parts":Str)=none∧o.2 [.ref a] H Q E:=by
 obtain ⟨dx,l,h1,h2⟩:=r
 have key:sp_rule_parts K [.ref a] H Q E:=⟨a,R.at k,dx,l,_,_,rfl,h1,(rk.icls k).cl,(rk.name k).2.2,(fldK_lk l v k).2.2.1,h2,q⟩
 have mem:(R.at k,sp_rule_parts K)∈oParts K R:=by
  unfold oParts
  match k with
  | 0=>simp [RC.at]
  | 1=>simp [RC.at]
  | 2=>simp [RC.at]
  | _ + 3=>simp [RC.at]
 exact ⟨_,mem,dx,_,h1,(fldK_lk l v k).2.2.2.1,key⟩
abbrev s_are_signs:Stmt:=top 46
abbrev SMALLS11:Str:="abcdefghijklmnopqrstuvwxyz"
def signsB (r:List Nat):Bool:=decide (1≤r.length) && decide (r.length≤4) && onlyB r SMALLS11 && decide ((met (signsOf (tx r))).length=r.length)
def sp_are_signs:Sp:=fun vs H Q _=>∃ (r:List Nat),vs=[.str (tx r)]∧r.length≤1000∧∀ H',Same H H'→Q (.bl (signsB r)) H'
theorem sc_are_signs:FnScope ["text"] ["text"] (defScope s_are_signs):=⟨rfl,rfl,rfl,by decide +kernel,rfl,by decide +kernel,by decide +kernel⟩
theorem ok_are_signs {f:Addr} {fd:FuncData} {t1 t2:Tok} (F:Fun K "are_signs" "are_signs" s_are_signs f fd) (nb:NB mg) (m_MOST_SIGNS:mg "MOST_SIGNS" = some (.int 4 t1)) (m_SMALLS:mg "SMALLS" = some (.str "abcdefghijklmnopqrstuvwxyz" t2)) (c_only_of:Cal P w K mg base CX0 1 "only_of" ["text","letters"] sp_only_of):FnOk P w K mg base CX0 2 f fd ["text"] sp_are_signs:=by
 have sc:=sc_are_signs
 refine F.ok sc (fun vs H Q E h=>?_) (fun cdv A outer s H vs Q E hr h=>?_)
 ·obtain ⟨r,rfl,_⟩:=h;rfl
 ·obtain ⟨r,rfl,hr',q⟩:=h
  refine ⟨_,(pss_one (ps_ret (pe_and (pe_chain op_le op_le pe_int (pe_callB call_len_str rfl nb.len bt_len (pa_cons (pv 0) pa_nil)) (pe_glob (v:=.int 4) rfl m_MOST_SIGNS ⟨_,rfl⟩)) (pe_and (pe_cal c_only_of (hr.mono (by decide)) rfl pass0 (pa_cons (pv 0) (pa_cons (pe_glob (v:=.str "abcdefghijklmnopqrstuvwxyz") rfl m_SMALLS ⟨_,rfl⟩) pa_nil))) (pe_one (pe_cmpR op_eq (pe_lenset rfl (pv 0) rfl nb.len rfl nb.set) (pe_callB call_len_str rfl nb.len bt_len (pa_cons (pv 0) pa_nil)) (nomark _))))))),?_⟩
  walk_at "wp"
  refine ⟨by rw [tx_length];exact line_le (by omega),?_⟩
  rw [tx_length]
  unfold signsB at q
  by_cases h1:1≤r.length
  ·rw [if_pos (by omega)]
   by_cases h2:r.length≤4
   ·rw [if_pos (by omega)]
    refine ⟨r,_,rfl,by omega,fun H' sm=>⟨_,rfl,?_⟩⟩
    have z:=q H' sm
    rw [decide_eq_true h1,decide_eq_true h2] at z
    cases ho:onlyB r SMALLS11 with
    | false=>
     rw [ho] at z
     rw [if_neg (by simp)]
     exact z
    | true=>
     rw [ho] at z
     rw [if_pos rfl]
     refine ⟨by rw [txs];unfold scanBound;omega,by exact line_le (by omega),?_⟩
     have e:decide (((met (signsOf (tx r))).length:Int)=(r.length:Int))=decide ((met (signsOf (tx r))).length=r.length):=by
      apply decide_eq_decide.mpr
      constructor <;> intro h <;> omega
     rw [e]
     exact z
   ·rw [if_neg (by omega)]
    have z:=q H (fun _ _ e=>e)
    rw [decide_eq_true h1,decide_eq_false h2] at z
    exact z
  ·rw [if_neg (by omega)]
   have z:=q H (fun _ _ e=>e)
   rw [decide_eq_false h1] at z
   exact z
def wyV (y:Str × List Int):List V:=.str y.1 :: y.2.map V.int
theorem drop_get {α:Type} {l:List α} {i:Nat} {x:α} (h:l[i]?=some x):l.drop i=x :: l.drop (i + 1):=by
 obtain ⟨hi,e⟩:=List.getElem?_eq_some_iff.mp h
 rw [List.drop_eq_getElem_cons hi,e]
def Faulty (C:Addr) (H:Hp) (y:Str × List Int) (E:XK):Prop:=∀ (t d:Addr) (H':Hp),Same H H'→H' t=some (.tup (wyV y))→H' d=some (.xd [("why",.ref t)])→E (.ref C) (some d) H'
theorem Faulty.made {C:Addr} {H H':Hp} {y:Str × List Int} {E:XK} (b:Faulty C H y E) (sm:Same H H') {p d:Addr} (hp:H' p=none) (hd:upd H' p (.tup (wyV y)) d=none):E (.ref C) (some d) (upd (upd H' p (.tup (wyV y))) d (.xd [("why",.ref p)])):=by
 have hdp:p≠d:=fun x=>by rw [← x,upd_same] at hd;cases hd
 exact b p d _ ((sm.trans (same_upd hp)).trans (same_upd hd)) (by rw [upd_ne hdp,upd_same]) upd_same
structure RKit4 (K:W.Frag) (R:RC):Prop where
 kit:∀ i j,i < 4→j < 4→W.kitOne K (.ref (R.at i)) (.ref (R.at j))=some (decide (i=j))
abbrev s_ginit:Stmt:=meth 6 0
theorem sc_ginit:FnScope ["self","why"] ["self","why"] (defScope s_ginit):=⟨rfl,rfl,rfl,by decide +kernel,rfl,by decide +kernel,by decide +kernel⟩
theorem ok_ginit {f C:Addr} {fd:FuncData} (F:Fun K "__init__" "NoGrammar.__init__" s_ginit f fd) (xs:W.XSt K C "why"):FnOk P w K mg base CX0 1 f fd ["self","why"] (sp_init C "why"):=by
 have sc:=sc_ginit
 refine F.ok sc (fun vs H Q E h=>?_) (fun cdv A outer s H vs Q E hr h=>?_)
 ·obtain ⟨a,v,rfl,_⟩:=h;rfl
 ·obtain ⟨a,v,rfl,ha,q⟩:=h
  refine ⟨_,(pss_one (ps_xset (pv 0) (pv 1) rfl)),?_⟩
  walk_at "wp"
  exact ⟨C,ha,xs,fun d hd=>q d hd⟩
abbrev inS (z x:Str):Bool:=!(Builtin.Str.occurrences z x 0 z.length 1).isEmpty
def badSign (sg:Str):List (Nat × RV)→Nat→Option Nat
 | [],_=>none
 | r :: rs,j=>if r.1=0∧inS sg (tx r.2.sg)=false then some j else badSign sg rs (j + 1)
def gFault0 (sg st:List Nat) (rs:List (Nat × RV)):Option (Str × List Int):=
 if signsB sg=false then some ("signs",[]) else if nameB st=false then some ("start",[]) else if 24 < rs.length then some ("rules",[(rs.length:Int)]) else
  match badSign (tx sg) rs 0 with
  | some k=>some ("sign",[(k:Int)])
  | none=>none
abbrev s_check_made_of:Stmt:=top 45
def RulesAt (R:RC) (H:Hp) (as:List Addr) (rs:List (Nat × RV)):Prop:=as.length=rs.length∧∀ (i:Nat) a r,as[i]?=some a→rs[i]?=some r→RuleAt R H r.1 a r.2
theorem RulesAt.up {R:RC} {H H':Hp} {as:List Addr} {rs:List (Nat × RV)} (h:RulesAt R H as rs) (s:Same H H'):RulesAt R H' as rs:=⟨h.1,fun i a r e1 e2=>(h.2 i a r e1 e2).up s⟩
def sp_check_made_of (R:RC) (C:Addr):Sp:=fun vs H Q E=>∃ (sg st:List Nat) (a:Addr) (as:List Addr) (rs:List (Nat × RV)),vs=[.str (tx sg),.str (tx st),.ref a]∧sg.length≤1000∧st.length≤1000∧H a=some (.lst (as.map V.ref))∧RulesAt R H as rs∧(∀ r∈rs,r.1 < 4)∧rs.length≤100 ∧
 (gFault0 sg st rs=none→∀ H',Same H H'→Q .non H')∧∀ y,gFault0 sg st rs=some y→Faulty C H y E
theorem sc_check_made_of:FnScope ["signs","start","rules","k","rule"] ["signs","start","rules"] (defScope s_check_made_of):=⟨rfl,rfl,rfl,by decide +kernel,rfl,by decide +kernel,by decide +kernel⟩
theorem ok_check_made_of {R:RC} {f zaa:Addr} {fd:FuncData} {t1:Tok} (F:Fun K "check_made_of" "check_made_of" s_check_made_of f fd) (nb:NB mg) (rk:RKit K R) (rk4:RKit4 K R) (m_MOST_RULES:mg "MOST_RULES" = some (.int 24 t1)) (zmb:mg "CellRule" = some (.ref R.cc))
  (zja:mg "NoGrammar" = some (.ref zaa)) (zna:XI P w K mg base 1 zaa "why") (c_are_signs:Cal P w K mg base CX0 2 "are_signs" ["text"] sp_are_signs) (c_is_name:Cal P w K mg base CX0 2 "is_name" ["text"] sp_is_name):FnOk P w K mg base (CX1 P w) 3 f fd ["signs","start","rules"] (sp_check_made_of R zaa):=by
 have sc:=sc_check_made_of
 refine F.okX sc (fun vs H Q E h=>?_) (fun cdv A outer s H vs Q E hr h=>?_)
 ·obtain ⟨sg,st,a,as,rs,rfl,_⟩:=h;rfl
 ·obtain ⟨sg,st,a,as,rs,rfl,hsg,hst,ha,hrs,hk4,hn,good,bad⟩:=h
  refine ⟨_,(pss_cons (ps_if (pt_not (pt_tb (pe_cal (CX:=CX1 P w) c_are_signs.lift (hr.mono (by decide)) rfl passes_E0 (pa_cons (pv 0) pa_nil)) fun _=>rfl))
   (pss_one (ps_raiseI zna (hr.mono (by decide)) rfl rfl zja (makesI_up fun _ _ _ h=>h) (pa_cons (pe_tup (pa_consS pa_nil)) pa_nil)))
   pss_nil)
   (pss_cons (ps_if (pt_not (pt_tb (pe_cal (CX:=CX1 P w) c_is_name.lift (hr.mono (by decide)) rfl passes_E0 (pa_cons (pv 1) pa_nil)) fun _=>rfl))
   (pss_one (ps_raiseI zna (hr.mono (by decide)) rfl rfl zja (makesI_up fun _ _ _ h=>h) (pa_cons (pe_tup (pa_consS pa_nil)) pa_nil)))
   pss_nil)
   (pss_cons (ps_if (pt_cmpR op_gt (pe_callB call_lenL rfl nb.len bt_len (pa_cons (pv 2) pa_nil)) (pe_glob (v:=.int 24) rfl m_MOST_RULES ⟨_,rfl⟩) (nomark _))
   (pss_one (ps_raiseI zna (hr.mono (by decide)) rfl rfl zja (makesI_up fun _ _ _ h=>h) (pa_cons (pe_tup (pa_consS (pa_cons (pe_callB call_lenL rfl nb.len bt_len (pa_cons (pv 2) pa_nil)) pa_nil))) pa_nil)))
   pss_nil)
   (pss_one (ps_forw PassesOwn.leaving rfl (pi_enum rfl nb.enumerate (pa_cons (pv 2) pa_nil)) (pg_tup (n:=2) rfl (pgs_cons (pg_name (i:=3) sc.nd rfl (Or.inl rfl)) (pgs_cons (pg_name (i:=4) sc.nd rfl (Or.inl rfl)) pgs_nil)))
   (pss_one (ps_if (PW.pt (pw_and (pt_tb (pe_callB call_isinstance rfl nb.isinstance bt_isinstance (pa_cons (pv 4) (pa_cons (pe_glob (v:=.ref _) rfl zmb rfl) pa_nil))) fun _=>rfl) (pw_and1 (pt_cmpR op_notin_str (pe_fld (pv 4) rfl) (pv 0) (by with_unfolding_all rfl)))))
   (pss_one (ps_raiseI zna (hr.mono (by decide)) rfl rfl zja (makesI_up fun _ _ _ h=>h) (pa_cons (pe_tup (pa_consS (pa_cons (pv 3) pa_nil))) pa_nil)))
   pss_nil))))))),?_⟩
  have tupw:∀ (H':Hp) (y:Str × List Int),Same H H'→gFault0 sg st rs=some y→∀ p,H' p=none→1≤sizeLine∧∀ d,upd H' p (.tup (wyV y)) d=none→E (.ref zaa) (some d) (upd (upd H' p (.tup (wyV y))) d (.xd [("why",.ref p)])):=
   fun H' y sm hy p hp=>⟨line_le (by omega),fun d hd=>(bad y hy).made sm hp hd⟩
  refine seq_cut fun N1 h1=>?_
  walk_at "wp"
  refine ⟨sg,rfl,hsg,fun H1 sm1=>⟨_,rfl,?_⟩⟩
  unfold gFault0 at good tupw
  cases e1:signsB sg with
  | false=>
   rw [if_pos rfl]
   rw [if_pos e1] at tupw
   exact ⟨line_le (by omega),tupw H1 _ sm1 rfl⟩
  | true=>
  rw [if_neg (by decide)]
  rw [if_neg (by rw [e1];decide)] at good tupw
  refine h1 _ _ ?_
  clear h1
  refine seq_cut fun N2 h2=>?_
  walk_at "wp"
  refine ⟨st,rfl,by omega,fun H2 sm2=>⟨_,rfl,?_⟩⟩
  have sm12:=sm1.trans sm2
  cases e2:nameB st with
  | false=>
   rw [if_pos rfl]
   rw [if_pos e2] at tupw
   exact ⟨line_le (by omega),tupw H2 _ sm12 rfl⟩
  | true=>
  rw [if_neg (by decide)]
  rw [if_neg (by rw [e2];decide)] at good tupw
  refine h2 _ _ ?_
  clear h2
  have ha2:=sm12 _ _ ha
  have hal:(as.map V.ref).length=rs.length:=by rw [List.length_map];exact hrs.1
  refine seq_cut fun N3 h3=>?_
  walk_at "wp"
  refine ⟨_,SqL.of ha2,?_⟩
  rw [hal]
  by_cases h24:24 < rs.length
  ·rw [if_pos (by omega)]
   rw [if_pos h24] at tupw
   refine ⟨_,SqL.of ha2,line_le (by omega),?_⟩
   rw [hal]
   exact tupw H2 _ sm12 rfl
  rw [if_neg (by omega)]
  rw [if_neg h24] at good tupw
  refine h3 _ _ ?_
  clear h3
  walk_at "wp"
  refine ⟨_,SqL.of ha2,?_⟩
  refine forw_enum (xs:=as.map V.ref) (fun i σ H'=>Same H H'∧badSign (tx sg) (rs.drop i) i=badSign (tx sg) rs 0∧∃ x y,σ=[some (.str (tx sg)),some (.str (tx st)),some (.ref a),x,y]) ⟨sm12,rfl,_,_,rfl⟩ ?_ ?_ ?_
  ·rintro i σ H' _ ⟨sm,_⟩
   exact SqL.of (sm _ _ ha)
  ·rintro i x σ H3 T hx ⟨sm,hb,x1,y1,rfl⟩ hT
   have hlt:i < rs.length:=by have:=(List.getElem?_eq_some_iff.mp hx).1;rw [hal] at this;exact this
   obtain ⟨ra,hra,rfl⟩:∃ ra,as[i]?=some ra∧V.ref ra=x:=by
    rw [List.getElem?_map] at hx
    cases e:as[i]? with
    | none=>rw [e] at hx;cases hx
    | some ra=>rw [e] at hx;exact ⟨ra,rfl,Option.some.inj hx⟩
   have hrr:rs[i]?=some rs[i]:=List.getElem?_eq_getElem hlt
   have hr4:=hk4 _ (List.getElem_mem hlt)
   generalize rs[i]=r at hrr hr4
   rw [drop_get hrr] at hb
   have smT:Same H (upd H3 T (.tup [V.int (i:Int),V.ref ra])):=sm.trans (same_upd hT)
   have eT:upd H3 T (.tup [V.int (i:Int),V.ref ra]) T=some (.tup [V.int (i:Int),V.ref ra]):=upd_same
   generalize upd H3 T (.tup [V.int (i:Int),V.ref ra])=H4 at smT eT ⊢
   have rr:=(hrs.2 i ra r hra hrr).up smT
   obtain ⟨dx,pl,hra4,_⟩:=id rr
   walk_at "wp"
   refine ⟨_,SqT.of eT,rfl,_,_,rfl,_,_,rfl,rfl,?_⟩
   refine ⟨_,(rk.icls r.1).ty hra4,_,rk4.kit r.1 0 hr4 (by decide),?_⟩
   have hb':(if r.1=0∧inS (tx sg) (tx r.2.sg)=false then some i else badSign (tx sg) (rs.drop (i + 1)) (i + 1))=badSign (tx sg) rs 0:=hb
   by_cases e0:r.1=0
   ·rw [if_pos (by simp [e0])]
    obtain ⟨r0,v⟩:=r
    have e0':r0=0:=e0
    subst e0'
    refine ⟨ra,rfl,_,_,_,hra4,rk.i0.cl,rk.a0.2.2.2,_,rfl,_,rfl,?_⟩
    cases hin:inS (tx sg) (tx v.sg) with
    | false=>
     rw [if_pos hin]
     rw [if_pos ⟨rfl,hin⟩] at hb'
     rw [← hb'] at tupw
     exact ⟨line_le (by omega),tupw H4 _ smT rfl⟩
    | true=>
     rw [if_neg (by rw [show (!(Builtin.Str.occurrences (tx sg) (tx v.sg) 0 (tx sg).length 1).isEmpty)=true from hin];decide)]
     rw [if_neg (fun z=>by rw [hin] at z;exact absurd z.2 (by decide))] at hb'
     exact ⟨smT,hb'⟩
   ·rw [if_neg (by simp [e0])]
    rw [if_neg (fun z=>e0 z.1)] at hb'
    exact ⟨smT,hb'⟩
  ·rintro σ H' ⟨sm,hb,x,y,rfl⟩
   walk_at "wp"
   rw [hal,List.drop_of_length_le (Nat.le_refl _)] at hb
   refine good ?_ H' sm
   rw [← hb];rfl
def ntPut (m:List (Str × List Nat)) (z:Str) (i:Nat):List (Str × List Nat):=m.map fun q=>if q.1=z then (q.1,q.2 ++ [i]) else q
structure NumI (H0:Hp) (p:Addr) (t:NT) (H:Hp):Prop where
 same:Same H0 H
 at_:NumsAt H p t
 fresh:∀ x∈t,H0 x.2.1=none
 nodup:((ntM t).map (·.1)).Nodup
theorem ntM_length (t:NT):(ntM t).length=t.length:=by unfold ntM;rw [List.length_map]
theorem ntName_length (m:List (Str × List Nat)) (z:Str):(ntName m z).length≤m.length + 1:=by
 unfold ntName;split
 ·omega
 ·rw [List.length_append];simp
theorem ntPut_keys (m:List (Str × List Nat)) (z:Str) (i:Nat):(ntPut m z i).map (·.1)=m.map (·.1):=by
 unfold ntPut;rw [List.map_map]
 apply List.map_congr_left
 intro q _
 simp only [Function.comp]
 split <;> rfl
theorem ntPut_set {m:List (Str × List Nat)} {j i:Nat} {q:Str × List Nat} (nd:(m.map (·.1)).Nodup) (hj:m[j]?=some q):m.set j (q.1,q.2 ++ [i])=ntPut m q.1 i:=by
 unfold ntPut
 apply List.ext_getElem?
 intro k
 rw [List.getElem?_map,List.getElem?_set]
 have hlt:j < m.length:=(List.getElem?_eq_some_iff.mp hj).1
 by_cases e:j=k
 ·subst e
  rw [if_pos rfl,if_pos hlt,hj]
  simp
 ·rw [if_neg e]
  cases hk:m[k]? with
  | none=>rfl
  | some y=>
   have hne:y.1≠q.1:=by
    intro h
    have h1:(m.map (·.1))[j]?=some q.1:=by rw [List.getElem?_map,hj];rfl
    have h2:(m.map (·.1))[k]?=some q.1:=by rw [List.getElem?_map,hk];simp [h]
    exact e ((List.getElem?_inj (List.getElem?_eq_some_iff.mp h1).1 nd).mp (h1.trans h2.symm))
   simp [hne]
theorem NumI.free {H0 H:Hp} {p:Addr} {t:NT} (N:NumI H0 p t H) {l:Addr} (h:H l=none):H0 l=none:=N.same.free h
theorem setdef_nums {te:TE} {σ:St} {H0 H:Hp} {p:Addr} {t:NT} {z:Str} {i:Nat} {Q:VK} (hp:H0 p=none) (hv:σ[i]?=some (some (.ref p))) (hte:∀ R:VK,R (.str z) H→te σ H R) (N:NumI H0 p t H) (hn:t.length < sizeLine)
  (h:∀ (H':Hp) (t':NT) (j:Nat) (x:Str × Addr × List Nat),NumI H0 p t' H'→t'[j]?=some x→x.1=z→ntM t'=ntName (ntM t) z→t'.length≤t.length + 1→(∀ a o,a≠p→H a=some o→H' a=some o)→Q (.ref x.2.1) H'):tDSetdef (tVar i) te (tLst tNil) σ H Q:=by
 refine ⟨.ref p,hv,p,rfl,.inl ⟨_,.inl N.at_.dict⟩,hte _ ⟨Nat.zero_le _,fun l hl=>?_⟩⟩
 have hl0:=N.free hl
 refine N.at_.setdef hl hn fun H' t' j x N' hj hx hm hy hk=>h H' t' j x ⟨fun b o e=>hk b o (fun q=>by rw [q,hp] at e;exact nomatch e) (N.same b o e),N',fun y hyy=>?_,?_⟩ hj hx hm ?_ hk
 ·rcases hy y hyy with q | q
  ·exact N.fresh y q
  ·rw [q];exact hl0
 ·rw [hm];exact ntName_nodup N.nodup
 ·have:=ntName_length (ntM t) z
  rw [← hm,ntM_length,ntM_length] at this
  exact this
theorem NumI.put {H0 H:Hp} {p:Addr} {t:NT} {j k:Nat} {x:Str × Addr × List Nat} (N:NumI H0 p t H) (hj:t[j]?=some x) :
  NumI H0 p (t.set j (x.1,x.2.1,x.2.2 ++ [k])) (upd H x.2.1 (.lst (ntI (x.2.2 ++ [k]))))∧ntM (t.set j (x.1,x.2.1,x.2.2 ++ [k]))=ntPut (ntM t) x.1 k:=by
 have hm:=List.mem_of_getElem? hj
 have e:ntM (t.set j (x.1,x.2.1,x.2.2 ++ [k]))=ntPut (ntM t) x.1 k:=by
  rw [ntM_set]
  exact ntPut_set (q:=(x.1,x.2.2)) N.nodup (by unfold ntM;rw [List.getElem?_map,hj];rfl)
 refine ⟨⟨same_upd2 N.same (N.fresh x hm),N.at_.put hj,fun y hy=>?_,?_⟩,e⟩
 ·rcases List.mem_or_eq_of_mem_set hy with q | q
  ·exact N.fresh y q
  ·rw [q];exact N.fresh x hm
 ·rw [e,ntPut_keys];exact N.nodup
abbrev s_numbers_by_name:Stmt:=top 47
theorem sc_numbers_by_name:FnScope ["start","rules","numbers","k","rule","part"] ["start","rules"] (defScope s_numbers_by_name):=⟨rfl,rfl,rfl,by decide +kernel,rfl,by decide +kernel,by decide +kernel⟩
def numStep (m:List (Str × List Nat)) (i:Nat) (r:Nat × RV):List (Str × List Nat):=((partsK r.1 r.2).map tx).foldl ntName (ntPut (ntName m (tx r.2.n)) (tx r.2.n) i)
def numsGo:Nat→List (Nat × RV)→List (Str × List Nat)→List (Str × List Nat)
 | _,[],m=>m
 | i,r :: rs,m=>numsGo (i + 1) rs (numStep m i r)
theorem ntName_few {m:List (Str × List Nat)} {z:Str} {n:Nat} (h:∀ q∈m,q.2.length≤n):∀ q∈ntName m z,q.2.length≤n:=by
 unfold ntName;split
 ·exact h
 ·intro q hq
  rcases List.mem_append.mp hq with z1 | z1
  ·exact h q z1
  ·rw [List.mem_singleton.mp z1];exact Nat.zero_le _
theorem ntNames_few:∀ {zs:List Str} {m:List (Str × List Nat)} {n:Nat},(∀ q∈m,q.2.length≤n)→∀ q∈zs.foldl ntName m,q.2.length≤n
 | [],_,_,h=>h
 | z :: zs,_,_,h=>ntNames_few (zs:=zs) (ntName_few h)
theorem numStep_few {m:List (Str × List Nat)} {i n:Nat} {r:Nat × RV} (h:∀ q∈m,q.2.length≤n):∀ q∈numStep m i r,q.2.length≤n + 1:=by
 unfold numStep
 refine ntNames_few fun q hq=>?_
 unfold ntPut at hq
 obtain ⟨q0,hq0,rfl⟩:=List.mem_map.mp hq
 have:=ntName_few h q0 hq0
 split
 ·rw [List.length_append];simp;exact this
 ·omega
theorem numsGo_few:∀ {rs:List (Nat × RV)} {i n:Nat} {m:List (Str × List Nat)},(∀ q∈m,q.2.length≤n)→∀ q∈numsGo i rs m,q.2.length≤n + rs.length
 | [],_,_,_,h=>h
 | r :: rs,i,n,m,h=>fun q hq=>by
  have:=numsGo_few (rs:=rs) (i:=i + 1) (numStep_few (i:=i) (r:=r) h) q hq
  rw [List.length_cons];omega
theorem numsGo_snoc:∀ {rs:List (Nat × RV)} {i:Nat} {m:List (Str × List Nat)} {r:Nat × RV},numsGo i (rs ++ [r]) m=numStep (numsGo i rs m) (i + rs.length) r
 | [],i,m,r=>rfl
 | r0 :: rs,i,m,r=>by
  show numsGo (i + 1) (rs ++ [r]) (numStep m i r0)=numStep (numsGo (i + 1) rs (numStep m i r0)) (i + (rs.length + 1)) r
  rw [numsGo_snoc,show i + 1 + rs.length=i + (rs.length + 1) by omega]
theorem partsK_few (k:Nat) (v:RV):(partsK k v).length≤2:=by
 match k with
 | 0=>simp [partsK]
 | 1=>simp [partsK]
 | 2=>simp [partsK]
 | _ + 3=>simp [partsK]
def numsOf (z:Str) (rs:List (Nat × RV)):List (Str × List Nat):=numsGo 0 rs [(z,[])]
def sp_numbers_by_name (K:W.Frag) (R:RC):Sp:=fun vs H Q _=>∃ (z:Str) (a:Addr) (as:List Addr) (rs:List (Nat × RV)),vs=[.str z,.ref a]∧H a=some (.lst (as.map V.ref))∧RulesAt R H as rs∧rs.length≤100 ∧
 ∀ p H' t,H p=none→NumsAt H' p t→ntM t=numsOf z rs→(∀ x∈t,H x.2.1=none)→Same H H'→Q (.ref p) H'
theorem ok_numbers_by_name {R:RC} {f:Addr} {fd:FuncData} (F:Fun K "numbers_by_name" "numbers_by_name" s_numbers_by_name f fd) (nb:NB mg) (rk:RKit K R) (cp_parts:CalP P w K mg base CX0 1 "parts" (oParts K R)):FnOk P w K mg base CX0 2 f fd ["start","rules"] (sp_numbers_by_name K R):=by
 have sc:=sc_numbers_by_name
 refine F.ok sc (fun vs H Q E h=>?_) (fun cdv A outer s H vs Q E hr h=>?_)
 ·obtain ⟨r,a,_,_,rfl,_⟩:=h;rfl
 ·obtain ⟨z,a,as,rs,rfl,ha,hrs,hn,q⟩:=h
  refine ⟨_,(pss_cons (ps_set (i:=2) sc.nd rfl (Or.inl rfl) (pe_disp (pps_cons (pv 0) (pe_lst pa_nil) pps_nil) rfl rfl (by simp) (by decide)))
   (pss_cons (ps_forw PassesOwn.never rfl (pi_enum rfl nb.enumerate (pa_cons (pv 1) pa_nil)) (pg_tup (n:=2) rfl (pgs_cons (pg_name (i:=3) sc.nd rfl (Or.inl rfl)) (pgs_cons (pg_name (i:=4) sc.nd rfl (Or.inl rfl)) pgs_nil)))
   (pss_cons (ps_expr (pe_bm PySem.F.plainAttrs_list PySem.F.slot_list_append PySem.F.type_list_append mt_append (pe_dsetdef (pv 2) (pe_fld (pv 4) rfl) (pe_lst pa_nil) ⟨rfl,rfl,rfl,rfl⟩) (pa_cons (pv 3) pa_nil)))
   (pss_one (ps_forw PassesOwn.never rfl (pi_list (pe_calP0 cp_parts (hr.mono (by decide)) pass0 (pv 4))) (pg_name (i:=5) sc.nd rfl (Or.inl rfl))
   (pss_one (ps_expr (pe_dsetdef (pv 2) (pv 5) (pe_lst pa_nil) ⟨rfl,rfl,rfl,rfl⟩)))))))
   (pss_one (ps_ret (pv 2))))),?_⟩
  walk_at "wp"
  intro p hp
  refine ⟨Nat.zero_le _,fun l hl=>?_⟩
  have hlp:l≠p:=fun e=>by rw [e,upd_same] at hl;exact nomatch hl
  have hl0:H l=none:=by rw [upd_ne hlp] at hl;exact hl
  have hap:a≠p:=fun e=>by rw [e,hp] at ha;exact nomatch ha
  have hal:a≠l:=fun e=>by rw [e,hl0] at ha;exact nomatch ha
  refine ⟨by rw [upd_ne (Ne.symm hlp),upd_same],[(.inr z,.ref l)],rfl,by simp,as.map V.ref,SqL.of (by rw [upd_ne hap,upd_ne hal,upd_ne hap];exact ha),?_⟩
  refine forw_enum (xs:=as.map V.ref) (fun i σ H'=>Same H H'∧∃ t,NumsAt H' p t∧(∀ x∈t,H x.2.1=none)∧((ntM t).map (·.1)).Nodup∧ntM t=numsGo 0 (rs.take i) [(z,[])]∧t.length≤1 + 3 * i∧∃ x y u,σ=[some (.str z),some (.ref a),some (.ref p),x,y,u]) ?_ ?_ ?_ ?_
  ·refine ⟨fun b o e=>?_,[(z,l,[])],⟨by rw [upd_same];rfl,fun x hx=>?_,by simp⟩,fun x hx=>?_,by simp [ntM],rfl,by simp,_,_,_,rfl⟩
   ·have h1:b≠p:=fun q=>by rw [q,hp] at e;exact nomatch e
    have h2:b≠l:=fun q=>by rw [q,hl0] at e;exact nomatch e
    rw [upd_ne h1,upd_ne h2,upd_ne h1];exact e
   ·rw [List.mem_singleton.mp hx,upd_ne hlp,upd_same];rfl
   ·rw [List.mem_singleton.mp hx];exact hl0
  ·rintro i σ H' _ ⟨sm,_⟩
   exact SqL.of (sm _ _ ha)
  ·rintro i x σ H1 T hx ⟨sm,t,N,fr,nd,em,hlen,x1,y1,u1,rfl⟩ hT
   have hlt:i < rs.length:=by have:=(List.getElem?_eq_some_iff.mp hx).1;rw [List.length_map,hrs.1] at this;exact this
   obtain ⟨ra,hra,rfl⟩:∃ ra,as[i]?=some ra∧V.ref ra=x:=by
    rw [List.getElem?_map] at hx
    cases e:as[i]? with
    | none=>rw [e] at hx;cases hx
    | some ra=>rw [e] at hx;exact ⟨ra,rfl,Option.some.inj hx⟩
   have hrr:rs[i]?=some rs[i]:=List.getElem?_eq_getElem hlt
   generalize rs[i]=r at hrr
   have rr:=hrs.2 i ra r hra hrr
   have smT:Same H (upd H1 T (.tup [V.int (i:Int),V.ref ra])):=sm.trans (same_upd hT)
   have gT:∀ b o,H1 b=some o→upd H1 T (.tup [V.int (i:Int),V.ref ra]) b=some o:=same_upd hT
   have eT:SqT K (upd H1 T (.tup [V.int (i:Int),V.ref ra])) T [V.int (i:Int),V.ref ra]:=SqT.of upd_same
   have N2:=N.grow gT
   generalize upd H1 T (.tup [V.int (i:Int),V.ref ra])=H2 at smT gT eT N2 ⊢
   clear gT N hT sm H1
   simp only [gTup,gCons,gName,gNil]
   refine ⟨_,_,rfl,eT,rfl,_,_,rfl,_,_,rfl,rfl,?_⟩
   refine seq_cut fun N1 h1=>?_
   have rr2:=rr.up smT
   have NI:NumI H p t H2:=⟨smT,N2,fr,nd⟩
   have hz:sizeLine > 1000:=line_big (by decide)
   obtain ⟨dx,pl,hra2,_⟩:=id rr2
   walk_at "wp"
   refine setdef_nums (z:=tx r.2.n) hp rfl (fun S hS=>⟨_,rfl,ra,_,dx,_,_,rfl,hra2,(rk.icls r.1).cl,(rk.name r.1).1,(fldK_lk pl r.2 r.1).1,hS⟩) NI (by omega) fun H3 t3 j x N3 hj hx hm hl3 hk=>?_
   have hxl:=N3.at_.list x (List.mem_of_getElem? hj)
   refine ⟨.inl ⟨rfl,_,SqL.of hxl⟩,_,rfl,_,hxl,?_,h1 _ _ ?_⟩
   ·have h2:(x.1,x.2.2)∈ntName (ntM t) (tx r.2.n):=by rw [← hm];exact List.mem_map.mpr ⟨x,List.mem_of_getElem? hj,rfl⟩
    have h3:=ntName_few (numsGo_few (rs:=rs.take i) (i:=0) (n:=0) (m:=[(z,[])]) (fun q hq=>by rw [List.mem_singleton.mp hq];exact Nat.zero_le _)) (z:=tx r.2.n) (x.1,x.2.2) (by rw [← em];exact h2)
    rw [List.length_take] at h3
    unfold ntI
    rw [List.length_map]
    have h4:x.2.2.length≤100:=by simp at h3;omega
    omega
   clear h1
   obtain ⟨N4,hm4⟩:=N3.put (k:=i) hj
   have hl4:(t3.set j (x.1,x.2.1,x.2.2 ++ [i])).length≤t.length + 1:=by rw [List.length_set];exact hl3
   have hm4:ntM (t3.set j (x.1,x.2.1,x.2.2 ++ [i]))=ntPut (ntName (ntM t) (tx r.2.n)) (tx r.2.n) i:=by rw [hm4,hm,hx]
   have eI:ntI (x.2.2 ++ [i])=ntI x.2.2 ++ [V.int (i:Int)]:=by unfold ntI;rw [List.map_append];rfl
   rw [eI] at N4
   generalize t3.set j (x.1,x.2.1,x.2.2 ++ [i])=t4 at N4 hm4 hl4
   generalize upd H3 x.2.1 (.lst (ntI x.2.2 ++ [V.int (i:Int)]))=H4 at N4 ⊢
   clear hk hxl hj N3 hm hl3 hx NI N2 hra2 rr2
   have rr4:=rr.up N4.same
   have hpk:=partsK_few r.1 r.2
   walk_at "wp"
   refine parts_any rk rr4 fun lp H5 hlp hH5 sm5=>⟨lp,rfl,⟨_,SqL.of hH5⟩,?_⟩
   have hpp:lp≠p:=fun e=>by rw [e,N4.at_.dict] at hlp;exact nomatch hlp
   refine forw_list (xs:=rowsV (partsK r.1 r.2)) (fun n σ H'=>n≤(partsK r.1 r.2).length∧∃ t',NumI H p t' H'∧ntM t'=(((partsK r.1 r.2).take n).map tx).foldl ntName (ntPut (ntName (ntM t) (tx r.2.n)) (tx r.2.n) i)∧t'.length≤t.length + 1 + n∧H' lp=some (.lst (rowsV (partsK r.1 r.2)))∧∃ u,σ=[some (.str z),some (.ref a),some (.ref p),some (.int (i:Int)),some (.ref ra),u])
    ⟨Nat.zero_le _,t4,⟨N4.same.trans sm5,N4.at_.grow sm5,N4.fresh,N4.nodup⟩,hm4,hl4,hH5,_,rfl⟩ ?_ ?_ ?_
   ·rintro n σ H' _ ⟨_,t',_,_,_,hH',_⟩
    exact SqL.of hH'
   ·rintro n v σ H' hv ⟨hn1,t',N',hm',hl',hH',u,rfl⟩
    have hnl:n < (partsK r.1 r.2).length:=by have:=(List.getElem?_eq_some_iff.mp hv).1;rwa [rowsV_length] at this
    rw [rowsV_get hnl] at hv
    cases hv
    walk_at "wp"
    refine setdef_nums (z:=tx (partsK r.1 r.2)[n]) hp rfl (fun S hS=>⟨_,rfl,hS⟩) N' (by omega) fun H6 t6 j x N6 hj hx hm6 hl6 hk=>?_
    refine ⟨hnl,t6,N6,?_,by omega,hk _ _ hpp hH'⟩
    rw [hm6,hm',List.take_add_one,List.getElem?_eq_getElem hnl,List.map_append,List.foldl_append]
    rfl
   ·rintro σ H' ⟨_,t',N',hm',hl',hH',u,rfl⟩
    rw [rowsV_length,List.take_length] at hm'
    refine ⟨N'.same,t',N'.at_,N'.fresh,N'.nodup,?_,?_,_,_,_,rfl⟩
    ·rw [hm',List.take_add_one,hrr,em]
     show _=numsGo 0 (rs.take i ++ [r]) _
     rw [numsGo_snoc,List.length_take,Nat.min_eq_left (Nat.le_of_lt hlt),Nat.zero_add]
     rfl
    ·rw [rowsV_length] at hl';omega
  ·rintro σ H' ⟨sm,t,N,fr,_,em,_,x,y,u,rfl⟩
   walk_at "wp"
   refine q p H' t hp N ?_ fr sm
   rw [em,List.length_map,hrs.1,List.take_length];rfl
def gFault (sg st:List Nat) (rs:List (Nat × RV)):Option (Str × List Int):=
 match gFault0 sg st rs with
 | some y=>some y
 | none=>if 8 < (numsOf (tx st) rs).length then some ("names",[((numsOf (tx st) rs).length:Int)]) else none
def gramFs (sg st:List Nat) (lk pn:Addr):List (Str × V):=[("signs",.str (tx sg)),("start",.str (tx st)),("kept",.ref lk),("numbers",.ref pn)]
def GramF (R:RC) (H:Hp) (C dx a:Addr) (sg st:List Nat) (as:List Addr) (rs:List (Nat × RV)):Prop:=
 ∃ lk pn t,H a=some (.ins C dx (gramFs sg st lk pn))∧H lk=some (.lst (as.map V.ref))∧RulesAt R H as rs∧NumsAt H pn t∧ntM t=numsOf (tx st) rs
def GramAt (R:RC) (H:Hp) (C dx a:Addr) (sg st:List Nat) (as:List Addr) (rs:List (Nat × RV)) (lk pn:Addr) (t:NT):Prop:=
 H a=some (.ins C dx (gramFs sg st lk pn))∧H lk=some (.lst (as.map V.ref))∧RulesAt R H as rs∧NumsAt H pn t∧ntM t=numsOf (tx st) rs
theorem GramAt.f {R:RC} {H:Hp} {C dx a:Addr} {sg st:List Nat} {as:List Addr} {rs:List (Nat × RV)} {lk pn:Addr} {t:NT} (g:GramAt R H C dx a sg st as rs lk pn t):GramF R H C dx a sg st as rs:=⟨lk,pn,t,g⟩
theorem GramAt.up {R:RC} {H H':Hp} {C dx a:Addr} {sg st:List Nat} {as:List Addr} {rs:List (Nat × RV)} {lk pn:Addr} {t:NT} (g:GramAt R H C dx a sg st as rs lk pn t) (s:Same H H'):GramAt R H' C dx a sg st as rs lk pn t:=
 ⟨s _ _ g.1,s _ _ g.2.1,g.2.2.1.up s,g.2.2.2.1.grow s,g.2.2.2.2⟩
theorem GramF.up {R:RC} {H H':Hp} {C dx a:Addr} {sg st:List Nat} {as:List Addr} {rs:List (Nat × RV)} (g:GramF R H C dx a sg st as rs) (s:Same H H'):GramF R H' C dx a sg st as rs:=by
 obtain ⟨lk,pn,t,h1,h2,h3,h4,h5⟩:=g
 exact ⟨lk,pn,t,s _ _ h1,s _ _ h2,h3.up s,h4.grow s,h5⟩
def FaultyX (a C:Addr) (H:Hp) (y:Str × List Int) (E:XK):Prop:=∀ (t d:Addr) (H':Hp),SameX a H H'→H' t=some (.tup (wyV y))→H' d=some (.xd [("why",.ref t)])→E (.ref C) (some d) H'
theorem fldK_ne (k:Nat) (l:Addr) (v:RV):fldK k l v≠[]:=fun e=>by
 have:=(fldK_lk l v k).1
 rw [e] at this
 exact nomatch this
theorem RulesAt.upX {R:RC} {H H':Hp} {a C dx:Addr} {as:List Addr} {rs:List (Nat × RV)} (h:RulesAt R H as rs) (ha:H a=some (.ins C dx [])) (s:SameX a H H'):RulesAt R H' as rs:=by
 refine ⟨h.1,fun i b r e1 e2=>?_⟩
 obtain ⟨d,l,h1,h2⟩:=h.2 i b r e1 e2
 refine ⟨d,l,s _ _ (fun e=>?_) h1,s _ _ (fun e=>?_) h2⟩
 ·rw [e,ha] at h1
  have:=Option.some.inj h1
  exact absurd (HO.ins.inj this).2.2.symm (fldK_ne _ _ _)
 ·rw [e,ha] at h2;cases h2
abbrev s_gram_init:Stmt:=meth 44 0
def sp_gram_init (K:W.Frag) (R:RC) (CF:Addr):Sp:=fun vs H Q E=>∃ (a C dx l:Addr) (sg st:List Nat) (as:List Addr) (rs:List (Nat × RV)),vs=[.ref a,.str (tx sg),.str (tx st),.ref l]∧H a=some (.ins C dx [])∧Cls K C∧(NoAttr K C "signs"∧NoAttr K C "start"∧NoAttr K C "kept"∧NoAttr K C "numbers") ∧
 sg.length≤1000∧st.length≤1000∧H l=some (.lst (as.map V.ref))∧RulesAt R H as rs∧(∀ r∈rs,r.1 < 4)∧rs.length≤100 ∧
 (gFault sg st rs=none→∀ H' lk pn t,SameX a H H'→GramAt R H' C dx a sg st as rs lk pn t→H lk=none→H pn=none→(∀ x∈t,H x.2.1=none)→Q .non H')∧∀ y,gFault sg st rs=some y→FaultyX a CF H y E
theorem sc_gram_init:FnScope ["self","signs","start","rules"] ["self","signs","start","rules"] (defScope s_gram_init):=⟨rfl,rfl,rfl,by decide +kernel,rfl,by decide +kernel,by decide +kernel⟩
theorem ok_gram_init {R:RC} {f zaa:Addr} {fd:FuncData} {t1:Tok} (F:Fun K "__init__" "Grammar.__init__" s_gram_init f fd) (nb:NB mg) (m_MOST_NAMES:mg "MOST_NAMES" = some (.int 8 t1))
  (zja:mg "NoGrammar" = some (.ref zaa)) (zna:XI P w K mg base 1 zaa "why") (c_check_made_of:Cal P w K mg base (CX1 P w) 3 "check_made_of" ["signs","start","rules"] (sp_check_made_of R zaa)) (c_numbers_by_name:Cal P w K mg base CX0 2 "numbers_by_name" ["start","rules"] (sp_numbers_by_name K R)) :
  FnOk P w K mg base (CX1 P w) 4 f fd ["self","signs","start","rules"] (sp_gram_init K R zaa):=by
 have sc:=sc_gram_init
 refine F.okX sc (fun vs H Q E h=>?_) (fun cdv A outer s H vs Q E hr h=>?_)
 ·obtain ⟨a,C,dx,l,sg,st,as,rs,rfl,_⟩:=h;rfl
 ·obtain ⟨a,C,dx,l,sg,st,as,rs,rfl,ha,cl,⟨n1,n2,n3,n4⟩,hsg,hst,hl,hrs,hk4,hn,good,bad⟩:=h
  refine ⟨_,(pss_cons (ps_expr (pe_cal (E:=E) c_check_made_of (hr.mono (by decide)) rfl (passes_up fun _ _ _ h=>h) (pa_cons (pv 1) (pa_cons (pv 2) (pa_cons (pv 3) pa_nil)))))
   (pss_cons (ps_fld (pv 0) (pv 1) rfl)
   (pss_cons (ps_fld (pv 0) (pv 2) rfl)
   (pss_cons (ps_fld (pv 0) (pe_callTy call_list_of rfl nb.list bt_list (pa_cons (pv 3) pa_nil)) rfl)
   (pss_cons (ps_fld (pv 0) (pe_cal (CX:=CX1 P w) c_numbers_by_name.lift (hr.mono (by decide)) rfl passes_E0 (pa_cons (pv 2) (pa_cons (pv 3) pa_nil))) rfl)
   (pss_one (ps_if (pt_cmpR op_gt (pe_callB call_lenD rfl nb.len bt_len (pa_cons (pe_fld (pv 0) rfl) pa_nil)) (pe_glob (v:=.int 8) rfl m_MOST_NAMES ⟨_,rfl⟩) (nomark _))
   (pss_one (ps_raiseI zna (hr.mono (by decide)) rfl rfl zja (makesI_up fun _ _ _ h=>h) (pa_cons (pe_tup (pa_consS (pa_cons (pe_callB call_lenD rfl nb.len bt_len (pa_cons (pe_fld (pv 0) rfl) pa_nil)) pa_nil))) pa_nil)))
   pss_nil))))))),?_⟩
  refine seq_cut fun N1 h1=>?_
  walk_at "wp"
  refine ⟨sg,st,l,as,rs,rfl,hsg,hst,hl,hrs,hk4,hn,fun g0 H1 sm1=>h1 _ _ ?_,fun y hy t d H' sm ht hd=>bad y (by unfold gFault;rw [hy]) t d H' (.of sm) ht hd⟩
  clear h1
  have ha1:=sm1 _ _ ha
  have hla:l≠a:=fun e=>by rw [e,ha] at hl;cases hl
  refine seq_cut fun N2 h2=>?_
  walk_at "wp"
  refine ⟨C,dx,_,ha1,cl,n1,by simp,h2 _ _ ?_⟩
  clear h2
  have sx2:SameX a H (upd H1 a (.ins C dx [("signs",.str (tx sg))])):=(SameX.of sm1).put
  have ea2:upd H1 a (.ins C dx [("signs",.str (tx sg))]) a=some (.ins C dx [("signs",.str (tx sg))]):=upd_same
  show _
  change tSeq _ _ _ _ (upd H1 a (.ins C dx [("signs",.str (tx sg))]))
  generalize upd H1 a (.ins C dx [("signs",.str (tx sg))])=H2 at sx2 ea2 ⊢
  clear sm1 ha1
  refine seq_cut fun N3 h3=>?_
  walk_at "wp"
  have d1:¬ (("signs":Str) = "start"):=by decide +kernel
  have e3:putF "start" (V.str (tx st)) [(("signs":Str),V.str (tx sg))]=[(("signs":Str),V.str (tx sg)),(("start":Str),V.str (tx st))]:=by simp only [putF,if_neg d1]
  refine ⟨C,dx,_,ea2,cl,n2,by simp,?_⟩
  rw [e3]
  refine h3 _ _ ?_
  clear h3
  have sx3:SameX a H (upd H2 a (.ins C dx [(("signs":Str),V.str (tx sg)),(("start":Str),V.str (tx st))])):=sx2.put
  have ea3:upd H2 a (.ins C dx [(("signs":Str),V.str (tx sg)),(("start":Str),V.str (tx st))]) a=some (.ins C dx [(("signs":Str),V.str (tx sg)),(("start":Str),V.str (tx st))]):=upd_same
  generalize upd H2 a (.ins C dx [(("signs":Str),V.str (tx sg)),(("start":Str),V.str (tx st))])=H3 at sx3 ea3 ⊢
  clear sx2 ea2
  have hl3:=sx3 _ _ hla hl
  refine seq_cut fun N4 h4=>?_
  walk_at "wp"
  refine ⟨_,.inl (SqL.of hl3),fun lk hlk=>?_⟩
  have hka:lk≠a:=fun e=>by rw [e,ea3] at hlk;cases hlk
  have hlk0:lk≠l:=fun e=>by rw [e,hl3] at hlk;cases hlk
  have sk:Same H3 (upd H3 lk (.lst (as.map V.ref))):=same_upd hlk
  have ek:upd H3 lk (.lst (as.map V.ref)) lk=some (.lst (as.map V.ref)):=upd_same
  have fr1:H lk=none:=by
   cases e:H lk with
   | none=>rfl
   | some u=>rw [sx3 _ _ hka e] at hlk;cases hlk
  generalize upd H3 lk (.lst (as.map V.ref))=H4 at sk ek ⊢
  have d2:¬ (("signs":Str) = "kept"):=by decide +kernel
  have d3:¬ (("start":Str) = "kept"):=by decide +kernel
  have e4:putF "kept" (V.ref lk) [(("signs":Str),V.str (tx sg)),(("start":Str),V.str (tx st))]=[(("signs":Str),V.str (tx sg)),(("start":Str),V.str (tx st)),(("kept":Str),V.ref lk)]:=by simp only [putF,if_neg d2,if_neg d3]
  refine ⟨C,dx,_,sk _ _ ea3,cl,n3,by simp,?_⟩
  rw [e4]
  refine h4 _ _ ?_
  clear h4
  have sx5:SameX a H (upd H4 a (.ins C dx [(("signs":Str),V.str (tx sg)),(("start":Str),V.str (tx st)),(("kept":Str),V.ref lk)])):=(sx3.then sk).put
  have ea5:upd H4 a (.ins C dx [(("signs":Str),V.str (tx sg)),(("start":Str),V.str (tx st)),(("kept":Str),V.ref lk)]) a=some (.ins C dx [(("signs":Str),V.str (tx sg)),(("start":Str),V.str (tx st)),(("kept":Str),V.ref lk)]):=upd_same
  have ek5:upd H4 a (.ins C dx [(("signs":Str),V.str (tx sg)),(("start":Str),V.str (tx st)),(("kept":Str),V.ref lk)]) lk=some (.lst (as.map V.ref)):=by rw [upd_ne hka];exact ek
  generalize upd H4 a (.ins C dx [(("signs":Str),V.str (tx sg)),(("start":Str),V.str (tx st)),(("kept":Str),V.ref lk)])=H5 at sx5 ea5 ek5 ⊢
  refine seq_cut fun N5 h5=>?_
  walk_at "wp"
  refine ⟨tx st,l,as,rs,rfl,sx5 _ _ hla hl,hrs.upX ha sx5,hn,fun pn H6 t hpn hN hm hfr sm6=>?_⟩
  have hpa:pn≠a:=fun e=>by rw [e,ea5] at hpn;cases hpn
  have hpk:pn≠lk:=fun e=>by rw [e,ek5] at hpn;cases hpn
  have fr2:H pn=none:=by
   cases e:H pn with
   | none=>rfl
   | some u=>rw [sx5 _ _ hpa e] at hpn;cases hpn
  have fr3:∀ x∈t,H x.2.1=none:=fun x hx=>by
   have h5x:=hfr x hx
   cases e:H x.2.1 with
   | none=>rfl
   | some u=>rw [sx5 _ _ (fun z=>by rw [z,ea5] at h5x;cases h5x) e] at h5x;cases h5x
  have d4:¬ (("signs":Str) = "numbers"):=by decide +kernel
  have d5:¬ (("start":Str) = "numbers"):=by decide +kernel
  have d6:¬ (("kept":Str) = "numbers"):=by decide +kernel
  have e6:putF "numbers" (V.ref pn) [(("signs":Str),V.str (tx sg)),(("start":Str),V.str (tx st)),(("kept":Str),V.ref lk)]=gramFs sg st lk pn:=by unfold gramFs;simp only [putF,if_neg d4,if_neg d5,if_neg d6]
  have ea6:=sm6 _ _ ea5
  refine ⟨C,dx,_,ea6,cl,n4,by simp,?_⟩
  rw [e6]
  refine h5 _ _ ?_
  clear h5
  have sx7:SameX a H (upd H6 a (.ins C dx (gramFs sg st lk pn))):=(sx5.then sm6).put
  have gf:GramAt R (upd H6 a (.ins C dx (gramFs sg st lk pn))) C dx a sg st as rs lk pn t:=by
   refine ⟨upd_same,by rw [upd_ne hka];exact sm6 _ _ ek5,hrs.upX ha sx7,⟨by rw [upd_ne hpa];exact hN.dict,fun x hx=>?_,hN.apart⟩,hm⟩
   have hq:=hN.list x hx
   rw [upd_ne (fun e=>by rw [e,ea6] at hq;cases hq)]
   exact hq
  have ea7:upd H6 a (.ins C dx (gramFs sg st lk pn)) a=some (.ins C dx (gramFs sg st lk pn)):=upd_same
  have ed7:upd H6 a (.ins C dx (gramFs sg st lk pn)) pn=some (.dK (ntK t)):=by rw [upd_ne hpa];exact hN.dict
  generalize upd H6 a (.ins C dx (gramFs sg st lk pn))=H7 at sx7 gf ea7 ed7 ⊢
  have hlen:(ntK t).length=(numsOf (tx st) rs).length:=by rw [← hm];unfold ntK ntM;rw [List.length_map,List.length_map]
  walk_at "wp"
  refine ⟨C,dx,_,ea7,cl,n4,_,rfl,pn,rfl,_,ed7,?_⟩
  rw [hlen]
  by_cases h8:8 < (numsOf (tx st) rs).length
  ·rw [if_pos (by omega)]
   refine ⟨C,dx,_,ea7,cl,n4,_,rfl,pn,rfl,_,ed7,line_le (by omega),fun p hp=>⟨line_le (by omega),fun d hd=>?_⟩⟩
   rw [hlen] at hd ⊢
   have hdp:p≠d:=fun x=>by rw [← x,upd_same] at hd;cases hd
   refine bad ("names",[((numsOf (tx st) rs).length:Int)]) (by unfold gFault;rw [g0];simp only [];rw [if_pos h8]) p d _ (((sx7.then (same_upd hp))).then (same_upd hd)) (by rw [upd_ne hdp,upd_same];rfl) upd_same
  ·rw [if_neg (by omega)]
   exact good (by unfold gFault;rw [g0];simp only [];rw [if_neg h8]) H7 lk pn t sx7 gf fr1 fr2 fr3
abbrev s_gram_rules:Stmt:=meth 44 1
def sp_gram_rules (R:RC) (C:Addr):Sp:=fun vs H Q _=>∃ (a dx:Addr) (sg st:List Nat) (as:List Addr) (rs:List (Nat × RV)),vs=[.ref a]∧GramF R H C dx a sg st as rs∧∀ l H',H l=none→H' l=some (.lst (as.map V.ref))→Same H H'→Q (.ref l) H'
theorem sc_gram_rules:FnScope ["self"] ["self"] (defScope s_gram_rules):=⟨rfl,rfl,rfl,by decide +kernel,rfl,by decide +kernel,by decide +kernel⟩
theorem ok_gram_rules {R:RC} {f C:Addr} {fd:FuncData} (F:Fun K "rules" "Grammar.rules" s_gram_rules f fd) (nb:NB mg) (cl:Cls K C) (na:NoAttr K C "signs"∧NoAttr K C "start"∧NoAttr K C "kept"∧NoAttr K C "numbers"):FnOk P w K mg base CX0 1 f fd ["self"] (sp_gram_rules R C):=by
 have sc:=sc_gram_rules
 refine F.ok sc (fun vs H Q E h=>?_) (fun cdv A outer s H vs Q E hr h=>?_)
 ·obtain ⟨a,dx,sg,st,as,rs,rfl,_⟩:=h;rfl
 ·obtain ⟨a,dx,sg,st,as,rs,rfl,g,q⟩:=h
  obtain ⟨lk,pn,t,ha,hk,hrs,hN,hm⟩:=id g
  have hu:=hr.units
  refine ⟨_,(pss_one (ps_ret (pe_callTy call_list_of rfl nb.list bt_list (pa_cons (pe_fld (pv 0) rfl) pa_nil)))),?_⟩
  walk_at "wp"
  exact ⟨C,dx,_,ha,cl,na.2.2.1,_,rfl,lk,rfl,_,.inl (SqL.of hk),fun l' hl'=>q l' _ hl' upd_same (same_upd hl')⟩
abbrev s_gram_rule:Stmt:=meth 44 2
def sp_gram_rule (R:RC) (C:Addr):Sp:=fun vs H Q _=>∃ (a dx:Addr) (sg st:List Nat) (as:List Addr) (rs:List (Nat × RV)) (k:Nat) (b:Addr),vs=[.ref a,.int (k:Int)]∧GramF R H C dx a sg st as rs∧as[k]?=some b∧Q (.ref b) H
theorem sc_gram_rule:FnScope ["self","k"] ["self","k"] (defScope s_gram_rule):=⟨rfl,rfl,rfl,by decide +kernel,rfl,by decide +kernel,by decide +kernel⟩
theorem ok_gram_rule {R:RC} {f C:Addr} {fd:FuncData} (F:Fun K "rule" "Grammar.rule" s_gram_rule f fd) (nb:NB mg) (cl:Cls K C) (na:NoAttr K C "signs"∧NoAttr K C "start"∧NoAttr K C "kept"∧NoAttr K C "numbers"):FnOk P w K mg base CX0 1 f fd ["self","k"] (sp_gram_rule R C):=by
 have sc:=sc_gram_rule
 refine F.ok sc (fun vs H Q E h=>?_) (fun cdv A outer s H vs Q E hr h=>?_)
 ·obtain ⟨a,dx,sg,st,as,rs,k,b,rfl,_⟩:=h;rfl
 ·obtain ⟨a,dx,sg,st,as,rs,k,b,rfl,g,hb,q⟩:=h
  obtain ⟨lk,pn,t,ha,hk,hrs,hN,hm⟩:=id g
  have hu:=hr.units
  refine ⟨_,(pss_one (ps_ret (pe_ix ix_list (pe_fld (pv 0) rfl) (pv 1) (fun _ _=>rfl)))),?_⟩
  walk_at "wp"
  exact ⟨C,dx,_,ha,cl,na.2.2.1,_,rfl,lk,rfl,_,SqL.of hk,_,atI_nat (by rw [List.getElem?_map,hb];rfl),q⟩
abbrev s_gram_many:Stmt:=meth 44 3
def sp_gram_many (R:RC) (C:Addr):Sp:=fun vs H Q _=>∃ (a dx:Addr) (sg st:List Nat) (as:List Addr) (rs:List (Nat × RV)),vs=[.ref a]∧GramF R H C dx a sg st as rs∧Q (.int (rs.length:Int)) H
theorem sc_gram_many:FnScope ["self"] ["self"] (defScope s_gram_many):=⟨rfl,rfl,rfl,by decide +kernel,rfl,by decide +kernel,by decide +kernel⟩
theorem ok_gram_many {R:RC} {f C:Addr} {fd:FuncData} (F:Fun K "many" "Grammar.many" s_gram_many f fd) (nb:NB mg) (cl:Cls K C) (na:NoAttr K C "signs"∧NoAttr K C "start"∧NoAttr K C "kept"∧NoAttr K C "numbers"):FnOk P w K mg base CX0 1 f fd ["self"] (sp_gram_many R C):=by
 have sc:=sc_gram_many
 refine F.ok sc (fun vs H Q E h=>?_) (fun cdv A outer s H vs Q E hr h=>?_)
 ·obtain ⟨a,dx,sg,st,as,rs,rfl,_⟩:=h;rfl
 ·obtain ⟨a,dx,sg,st,as,rs,rfl,g,q⟩:=h
  obtain ⟨lk,pn,t,ha,hk,hrs,hN,hm⟩:=id g
  have hu:=hr.units
  refine ⟨_,(pss_one (ps_ret (pe_callB call_lenL rfl nb.len bt_len (pa_cons (pe_fld (pv 0) rfl) pa_nil)))),?_⟩
  walk_at "wp"
  refine ⟨C,dx,_,ha,cl,na.2.2.1,_,rfl,lk,rfl,_,SqL.of hk,?_⟩
  rw [List.length_map,hrs.1];exact q
abbrev s_gram_names:Stmt:=meth 44 4
def sp_gram_names (R:RC) (C:Addr):Sp:=fun vs H Q _=>∃ (a dx:Addr) (sg st:List Nat) (as:List Addr) (rs:List (Nat × RV)),vs=[.ref a]∧GramF R H C dx a sg st as rs∧∀ l H',H l=none→H' l=some (.lst ((numsOf (tx st) rs).map fun q=>V.str q.1))→Same H H'→Q (.ref l) H'
theorem sc_gram_names:FnScope ["self"] ["self"] (defScope s_gram_names):=⟨rfl,rfl,rfl,by decide +kernel,rfl,by decide +kernel,by decide +kernel⟩
theorem ok_gram_names {R:RC} {f C:Addr} {fd:FuncData} (F:Fun K "names" "Grammar.names" s_gram_names f fd) (nb:NB mg) (cl:Cls K C) (na:NoAttr K C "signs"∧NoAttr K C "start"∧NoAttr K C "kept"∧NoAttr K C "numbers"):FnOk P w K mg base CX0 1 f fd ["self"] (sp_gram_names R C):=by
 have sc:=sc_gram_names
 refine F.ok sc (fun vs H Q E h=>?_) (fun cdv A outer s H vs Q E hr h=>?_)
 ·obtain ⟨a,dx,sg,st,as,rs,rfl,_⟩:=h;rfl
 ·obtain ⟨a,dx,sg,st,as,rs,rfl,g,q⟩:=h
  obtain ⟨lk,pn,t,ha,hk,hrs,hN,hm⟩:=id g
  have hu:=hr.units
  refine ⟨_,(pss_one (ps_ret (pe_callTy (call_listD rfl) rfl nb.list bt_list (pa_cons (pe_fld (pv 0) rfl) pa_nil)))),?_⟩
  walk_at "wp"
  refine ⟨C,dx,_,ha,cl,na.2.2.2,_,rfl,pn,rfl,_,hN.dict,fun l hl=>q l _ hl ?_ (same_upd hl)⟩
  rw [upd_same,← hm]
  unfold ntK ntM
  rw [List.map_map,List.map_map]
  rfl
def gramRows (sg st:List Nat) (rs:List (Nat × RV)):List Str:=[Str.ofString "signs " ++ tx sg,Str.ofString "start " ++ tx st] ++ rs.map fun r=>toldS r.1 r.2
def gramS (sg st:List Nat) (rs:List (Nat × RV)):Str:=Txt.join (Str.ofString "\n") (gramRows sg st rs)
theorem toldS_len {k:Nat} {v:RV} (ok:okR k v) (sm:v.small):(toldS k v).length≤4000:=by
 obtain ⟨b1,b2,b3,b4⟩:=sm
 match k,ok with
 | 0,ok=>
  show (headS v.n v.c ++ tx v.sg).length≤_
  rw [str_la,headS_len (by have:=ok.1.2.1;omega) ok.1.2.2,tx_length];omega
 | 1,ok=>
  show (headS v.n v.c ++ tx v.o1 ++ Str.ofString " | " ++ tx v.o2).length≤_
  rw [str_la,str_la,str_la,headS_len (by have:=ok.2.1;omega) ok.2.2,tx_length,tx_length,str_bar];omega
 | 2,ok=>
  show (headS v.n v.c ++ tx v.o1 ++ Str.ofString " / " ++ tx v.o2).length≤_
  rw [str_la,str_la,str_la,headS_len (by have:=ok.2.1;omega) ok.2.2,tx_length,tx_length,str_slash];omega
 | _ + 3,ok=>
  show (headS v.n v.c ++ tx v.o1 ++ Str.ofString " turned " ++ Str.ofString (toString v.t)).length≤_
  rw [str_la,str_la,str_la,headS_len (by have:=ok.1.2.1;omega) ok.1.2.2,tx_length,str_turned,(dig1 ok.2.1 (by have:=ok.2.2;omega)).1];omega
theorem sum_le {α:Type} (g:α→Nat) (b:Nat):∀ (l:List α),(∀ x∈l,g x≤b)→(l.map g).sum≤l.length * b
 | [],_=>by simp
 | x :: l,h=>by
  have h1:=sum_le g b l fun y hy=>h y (List.mem_cons_of_mem _ hy)
  have h2:=h x List.mem_cons_self
  rw [List.map_cons,List.sum_cons,List.length_cons,Nat.add_mul];omega
theorem gramRows_sum {sg st:List Nat} {rs:List (Nat × RV)} (h1:sg.length≤1000) (h2:st.length≤1000) (hn:rs.length≤100) (hok:∀ r∈rs,okR r.1 r.2∧r.2.small):((gramRows sg st rs).map (·.length)).sum + (gramRows sg st rs).length * (Str.ofString "\n").length≤16777216:=by
 have hl:(gramRows sg st rs).length=2 + rs.length:=by unfold gramRows;rw [List.length_append,List.length_map];rfl
 have hs:=sum_le (fun x:Str=>x.length) 4000 (gramRows sg st rs) fun x hx=>by
  unfold gramRows at hx
  rcases List.mem_append.mp hx with q | q
  ·rcases (show x=_∨x=_ by simpa using q) with rfl | rfl
   ·rw [str_la,tx_length];show 6 + _≤_;omega
   ·rw [str_la,tx_length];show 6 + _≤_;omega
  ·obtain ⟨r,hr,rfl⟩:=List.mem_map.mp q
   exact toldS_len (hok r hr).1 (hok r hr).2
 rw [hl] at hs ⊢
 have e1:(Str.ofString "\n").length=1:=rfl
 rw [e1]
 omega
abbrev s_gram_told:Stmt:=meth 44 6
def sp_gram_told (R:RC) (C:Addr):Sp:=fun vs H Q _=>∃ (a dx:Addr) (sg st:List Nat) (as:List Addr) (rs:List (Nat × RV)),vs=[.ref a]∧GramF R H C dx a sg st as rs∧sg.length≤1000∧st.length≤1000∧rs.length≤100∧(∀ r∈rs,okR r.1 r.2∧r.2.small)∧∀ H',Same H H'→Q (.str (gramS sg st rs)) H'
theorem sc_gram_told:FnScope ["self","rows"] ["self"] (defScope s_gram_told):=⟨rfl,rfl,rfl,by decide +kernel,rfl,by decide +kernel,by decide +kernel⟩
theorem ok_gram_told {R:RC} {f C:Addr} {fd:FuncData} (F:Fun K "told" "Grammar.told" s_gram_told f fd) (nb:NB mg) (cl:Cls K C) (na:NoAttr K C "signs"∧NoAttr K C "start"∧NoAttr K C "kept"∧NoAttr K C "numbers") (cp_told:CalP P w K mg base CX0 2 "told" (oTold R)):FnOk P w K mg base CX0 3 f fd ["self"] (sp_gram_told R C):=by
 have sc:=sc_gram_told
 refine F.ok sc (fun vs H Q E h=>?_) (fun cdv A outer s H vs Q E hr h=>?_)
 ·obtain ⟨a,dx,sg,st,as,rs,rfl,_⟩:=h;rfl
 ·obtain ⟨a,dx,sg,st,as,rs,rfl,g,hsg,hst,hn,hok,q⟩:=h
  obtain ⟨lk,pn,t,ha,hk,hrs,hN,hm⟩:=id g
  have hu:=hr.units
  refine ⟨_,(pss_cons (ps_set (i:=1) sc.nd rfl (Or.inl rfl) (pe_lst (pa_cons (pe_op op_add_str pe_str (pe_fld (pv 0) rfl)) (pa_cons (pe_op op_add_str pe_str (pe_fld (pv 0) rfl)) pa_nil))))
   (pss_one (ps_ret (pe_bm PySem.F.plainAttrs_str PySem.F.slot_str_join PySem.F.type_str_join mt_join pe_str (pa_cons (pe_op op_cat (pv 1) (pe_comp ["rule"] [] rfl (CompOk.of (by kernel_rfl)) (by kernel_rfl) (pi_list (pe_fld (pv 0) rfl))
    (fun _ _ _ _=>(pg_name (i:=0) (by show (["rule"]:List Str).Nodup;decide +kernel) rfl (Or.inl rfl))) (fun _ _ _ _=>pif_nil) (fun _ _ _ _=>(pe_calP0 cp_told (hr.mono (by decide)) pass0 (pv 0))))) pa_nil))))),?_⟩
  refine seq_cut fun N1 h1=>?_
  walk_at "wp"
  refine ⟨C,dx,_,ha,cl,na.1,_,rfl,_,rfl,by rw [tx_length];exact line_le (by show 6 + sg.length≤_;omega),C,dx,_,ha,cl,na.2.1,_,rfl,_,rfl,by rw [tx_length];exact line_le (by show 6 + st.length≤_;omega),line_le (by omega),fun lr hlr=>h1 _ _ ?_⟩
  clear h1
  have s1:Same H (upd H lr (.lst [V.str (Str.ofString "signs " ++ tx sg),V.str (Str.ofString "start " ++ tx st)])):=same_upd hlr
  have e1:upd H lr (.lst [V.str (Str.ofString "signs " ++ tx sg),V.str (Str.ofString "start " ++ tx st)]) lr=some (.lst [V.str (Str.ofString "signs " ++ tx sg),V.str (Str.ofString "start " ++ tx st)]):=upd_same
  generalize upd H lr (.lst [V.str (Str.ofString "signs " ++ tx sg),V.str (Str.ofString "start " ++ tx st)])=H1 at s1 e1 ⊢
  walk_at "wp"
  refine ⟨rfl,C,dx,_,s1 _ _ ha,cl,na.2.2.1,_,rfl,lk,rfl,⟨_,SqL.of (s1 _ _ hk)⟩,?_⟩
  have hal:=hrs.1
  refine comp_list (xs:=as.map V.ref) (fun i acc σ H'=>H'=H1∧acc=(rs.take i).map (fun r=>V.str (toldS r.1 r.2))∧i≤as.length∧∃ x,σ=[x]) ⟨rfl,rfl,Nat.zero_le _,_,rfl⟩ ?_ ?_ ?_ ?_ ?_
  ·rintro i acc σ H' ⟨_,rfl,hi,_⟩
   rw [List.length_map,List.length_take];exact line_big (by omega)
  ·rintro i acc σ H' ⟨_,_,h,_⟩
   rw [List.length_map];exact h
  ·rintro i acc σ H' ⟨rfl,_⟩
   exact SqL.of (s1 _ _ hk)
  ·rintro i x acc σ H' hx ⟨rfl,rfl,hi,y,rfl⟩
   have hlt:i < as.length:=by have:=(List.getElem?_eq_some_iff.mp hx).1;rwa [List.length_map] at this
   rw [List.getElem?_map,List.getElem?_eq_getElem hlt] at hx
   cases hx
   have hlr:i < rs.length:=by omega
   have hrr:rs[i]?=some rs[i]:=List.getElem?_eq_getElem hlr
   have ok:=hok _ (List.getElem_mem hlr)
   have rr:=(hrs.2 i as[i] rs[i] (List.getElem?_eq_getElem hlt) hrr).up s1
   walk_at "wp"
   refine told_any rr ok.1 ok.2 ⟨rfl,?_,hlt⟩
   rw [List.take_add_one,hrr,List.map_append]
   rfl
  ·rintro acc σ H' ⟨rfl,rfl,_⟩ l hl
   have hll:lr≠l:=fun e=>by rw [← e,e1] at hl;cases hl
   refine ⟨_,by rw [upd_ne hll];exact e1,_,upd_same,?_,fun p hp=>⟨gramRows sg st rs,.inl (SqL.of ?_),gramRows_sum hsg hst hn hok,q _ ((s1.trans (same_upd hl)).trans (same_upd hp))⟩⟩
   ·rw [List.length_map,List.length_take,List.length_map];exact line_le (by simp;omega)
   ·rw [upd_same,List.length_map,hal,List.take_length]
    unfold gramRows
    rw [List.map_append,List.map_map]
    rfl
abbrev s_l_cell:Stmt:=top 49
def sp_l_cell (K:W.Frag):Sp:=fun vs H Q _=>∃ (a:Addr) (ns:List Int) (k:Nat),vs=[.ref a,.int (k:Int)]∧SqL K H a (ns.map V.int)∧k≤1000∧∀ c:Int,Q (.int c) H
theorem sc_l_cell:FnScope ["_law_script","_law_k","_law_cell_here","_law_mixed"] ["_law_script","_law_k"] (defScope s_l_cell):=⟨rfl,rfl,rfl,by decide +kernel,rfl,by decide +kernel,by decide +kernel⟩
theorem ok_l_cell {f:Addr} {fd:FuncData} (F:Fun K "_law_cell" "_law_cell" s_l_cell f fd) (nb:NB mg):FnOk P w K mg base CX0 1 f fd ["_law_script","_law_k"] (sp_l_cell K):=by
 have sc:=sc_l_cell
 refine F.ok sc (fun vs H Q E h=>?_) (fun cdv A outer s H vs Q E hr h=>?_)
 ·obtain ⟨a,ns,k,rfl,_⟩:=h;rfl
 ·obtain ⟨a,ns,k,rfl,hS,hk,q⟩:=h
  refine ⟨_,(pss_cons (ps_set (i:=2) sc.nd rfl (Or.inl rfl) pe_int)
   (pss_cons (ps_if (pt_cmpR op_lt (pv 1) (pe_callB call_lenL rfl nb.len bt_len (pa_cons (pv 0) pa_nil)) (nomark _))
   (pss_one (ps_set (i:=2) sc.nd rfl (Or.inl rfl) (pe_ix ix_list (pv 0) (pv 1) (fun _ _=>rfl))))
   pss_nil)
   (pss_cons (ps_set (i:=3) sc.nd rfl (Or.inl rfl) (pe_op op_mod (pe_op op_mul (pe_op op_add (pe_op op_add (pe_op op_mod (pv 2) pe_int) (pe_op op_mul pe_int (pv 1))) pe_int) pe_int) pe_int))
   (pss_one (ps_ret (pe_op op_add (pe_op op_mul (pe_op op_fdivP (pv 2) pe_int) pe_int) (pe_op op_mod (pe_op op_add (pe_op op_mul (pv 3) pe_int) (pv 1)) pe_int))))))),?_⟩
  walk_at "wp"
  refine ⟨_,hS,?_⟩
  rw [List.length_map]
  split
  ·rename_i hlt
   have hlt':k < ns.length:=by omega
   refine ⟨_,hS,V.int ns[k],atI_nat (by rw [List.getElem?_map,List.getElem?_eq_getElem hlt'];rfl),?_⟩
   walk_at "wp"
   exact q _
  ·exact q _
def stepN (s:Nat):Nat:=match s with | 0=>1 | 1=>3 | 2=>5 | _=>7
def sigL (d s m:Nat):List Nat:=(List.range (1 + m)).map fun i=>97 + (d + i * stepN s) % 26
theorem sig_all:∀ d,d < 26→∀ s,s < 4→∀ m,m < 4→signsB (sigL d s m)=true:=by decide +kernel
theorem step_at:∀ n,n < 4→([V.int 1,V.int 3,V.int 5,V.int 7]:List V)[n]?=some (V.int (stepN n:Nat))∧stepN n≤7
 | 0,_=>⟨rfl,by decide⟩
 | 1,_=>⟨rfl,by decide⟩
 | 2,_=>⟨rfl,by decide⟩
 | 3,_=>⟨rfl,by decide⟩
theorem small_at:∀ n,n < 26→(Str.ofString "abcdefghijklmnopqrstuvwxyz").cps.toList[n]?=some (97 + n):=by decide +kernel
theorem signsB_len {r:List Nat} (h:signsB r=true):1≤r.length∧r.length≤4:=by
 unfold signsB at h
 simp only [Bool.and_eq_true,decide_eq_true_eq] at h
 exact ⟨h.1.1.1,h.1.1.2⟩
abbrev s_l_signs:Stmt:=top 51
def sp_l_signs:Sp:=fun vs H Q _=>∃ (c:Int),vs=[.int c,.int 4]∧∀ (r:List Nat) (H':Hp),signsB r=true→Same H H'→Q (.str (tx r)) H'
theorem sc_l_signs:FnScope ["_law_cell_here","_law_most","_law_letters","_law_step"] ["_law_cell_here","_law_most"] (defScope s_l_signs):=⟨rfl,rfl,rfl,by decide +kernel,rfl,by decide +kernel,by decide +kernel⟩
theorem ok_l_signs {f:Addr} {fd:FuncData} (F:Fun K "_law_signs" "_law_signs" s_l_signs f fd) (nb:NB mg):FnOk P w K mg base CX0 1 f fd ["_law_cell_here","_law_most"] sp_l_signs:=by
 have sc:=sc_l_signs
 refine F.ok sc (fun vs H Q E h=>?_) (fun cdv A outer s H vs Q E hr h=>?_)
 ·obtain ⟨c,rfl,_⟩:=h;rfl
 ·obtain ⟨c,rfl,q⟩:=h
  refine ⟨_,(pss_cons (ps_set (i:=2) sc.nd rfl (Or.inr rfl) pe_str)
   (pss_cons (ps_set (i:=3) sc.nd rfl (Or.inr rfl) (pe_ix ix_tup (pe_tup (pa_consI (pa_consI (pa_consI (pa_consI pa_nil))))) (pe_op op_mod (pe_op op_fdivP (pv 0) (pv 1)) pe_int) (fun _ _=>rfl)))
   (pss_one (ps_ret (pe_bm PySem.F.plainAttrs_str PySem.F.slot_str_join PySem.F.type_str_join mt_join pe_str (pa_cons (pe_comp ["_law_k"] [2,0,1,3] rfl (CompOk.of (by kernel_rfl)) (by kernel_rfl) (pi_range1 rfl nb.range (pa_cons (pe_op op_add pe_int (pe_op op_mod (pv 0) (pv 1))) pa_nil))
    (fun _ _ _ _=>(pg_name (i:=0) (by show (["_law_k","_law_letters","_law_cell_here","_law_most","_law_step"]:List Str).Nodup;decide +kernel) rfl (Or.inl rfl))) (fun _ _ _ _=>pif_nil) (fun _ _ _ _=>(pe_ix ix_str (pv 1) (pe_op op_mod (pe_op op_add (pe_op op_fdivP (pe_op op_fdivP (pv 2) (pv 3)) pe_int) (pe_op op_mul (pv 0) (pv 4))) pe_int) (fun _ _=>rfl)))) pa_nil)))))),?_⟩
  obtain ⟨m,hm⟩:∃ m:Nat,c % 4=(m:Int):=⟨_,(Int.toNat_of_nonneg (Int.emod_nonneg _ (by omega))).symm⟩
  obtain ⟨s4,hs4⟩:∃ m:Nat,c / 4 % 4=(m:Int):=⟨_,(Int.toNat_of_nonneg (Int.emod_nonneg _ (by omega))).symm⟩
  obtain ⟨d,hd⟩:∃ m:Nat,c / 4 / 4 % 26=(m:Int):=⟨_,(Int.toNat_of_nonneg (Int.emod_nonneg _ (by omega))).symm⟩
  have m2:m < 4:=by have:=Int.emod_lt_of_pos c (b:=4) (by omega);omega
  have s2:s4 < 4:=by have:=Int.emod_lt_of_pos (c / 4) (b:=4) (by omega);omega
  have d2:d < 26:=by have:=Int.emod_lt_of_pos (c / 4 / 4) (b:=26) (by omega);omega
  refine seq_cut fun N1 h1=>?_
  walk_at "wp"
  refine h1 _ _ ?_
  clear h1
  refine seq_cut fun N1 h1=>?_
  walk_at "wp"
  obtain ⟨stp,stl⟩:=step_at s4 s2
  refine ⟨line_le (by decide),fun p hp=>⟨_,SqT.of upd_same,_,by rw [hs4];exact atI_nat stp,h1 _ _ ?_⟩⟩
  clear h1
  have s1:Same H (upd H p (.tup [V.int 1,V.int 3,V.int 5,V.int 7])):=same_upd hp
  generalize upd H p (.tup [V.int 1,V.int 3,V.int 5,V.int 7])=H1 at s1 ⊢
  walk_at "wp"
  rw [hm]
  have en:(1 + (m:Int)).toNat=1 + m:=by omega
  rw [en]
  refine ⟨rfl,by omega,by omega,?_⟩
  have chr:∀ i:Nat,(c / 4 / 4 + (i:Int) * ((stepN s4:Nat):Int)) % 26=(((d + i * stepN s4) % 26:Nat):Int):=fun i=>by
   rw [Int.add_emod,hd]
   push_cast
   rw [Int.add_emod (d:Int) ((i:Int) * ((stepN s4:Nat):Int)),Int.emod_eq_of_lt (a:=(d:Int)) (by omega) (by omega)]
  refine comp_rangeF (n:=1 + m) (f:=fun i=>some (V.str ⟨#[97 + (d + i * stepN s4) % 26]⟩)) (fun σ=>∃ x,σ=[x,some (.str "abcdefghijklmnopqrstuvwxyz"),some (.int c),some (.int 4),some (.int ((stepN s4:Nat):Int))]) ⟨_,rfl⟩ (by omega) ?_ ?_
  ·rintro i hi σ H' N1 N0 ⟨y,rfl⟩ sm k1 k0
   walk_at "wp"
   have hb:i * stepN s4≤4 * 7:=Nat.mul_le_mul (by omega) stl
   have h2:(i:Int) * ((stepN s4:Nat):Int)=((i * stepN s4:Nat):Int):=by push_cast;rfl
   refine ⟨by omega,by decide,97 + (d + i * stepN s4) % 26,?_,k1 _ _ _ rfl sm ⟨_,rfl⟩⟩
   rw [chr i]
   exact atI_nat (small_at _ (Nat.mod_lt _ (by omega)))
  ·intro H' sm l hl
   rw [fm_some]
   have e0:(List.range (1 + m)).map (fun i=>V.str ⟨#[97 + (d + i * stepN s4) % 26]⟩)=((sigL d s4 m).map fun c=>(⟨#[c]⟩:Str)).map V.str:=by
    unfold sigL;rw [List.map_map,List.map_map];rfl
   rw [e0]
   have hg:=sig_all d d2 s4 s2 m m2
   have hgl:=signsB_len hg
   refine ⟨_,.inl (SqL.of upd_same),?_,?_⟩
   ·rw [List.map_map]
    have e1:((fun y:Str=>y.length) ∘ fun c=>(⟨#[c]⟩:Str))=fun _=>1:=by funext c;rfl
    have e0:(Str.ofString "").length=0:=rfl
    rw [e1,List.map_const',List.sum_replicate_nat,List.length_map,e0]
    omega
   ·rw [join_ones]
    exact q _ _ hg ((s1.trans sm).trans (same_upd hl))
theorem cap_at:∀ n,n < 26→(Str.ofString "ABCDEFGHIJKLMNOPQRSTUVWXYZ").cps.toList[n]?=some (65 + n):=by decide +kernel
def capB (c:Nat):Bool:=inT CAPS c
theorem cap_in:∀ n,n < 26→capB (65 + n)=true:=by decide +kernel
abbrev s_l_names:Stmt:=top 52
def sp_l_names:Sp:=fun vs H Q _=>∃ (c:Int),vs=[.int c]∧∀ (l:Addr) (p:Pic) (H':Hp),H l=none→H' l=some (.lst (rowsV p))→p.length=4→(∀ r∈p,nameB r=true)→Same H H'→Q (.ref l) H'
theorem sc_l_names:FnScope ["_law_cell_here","_law_letters","_law_rest","_law_word","_law_spot","_law_first","_law_step","_law_names_here","_law_k"] ["_law_cell_here"] (defScope s_l_names):=⟨rfl,rfl,rfl,by decide +kernel,rfl,by decide +kernel,by decide +kernel⟩
theorem ok_l_names {f:Addr} {fd:FuncData} (F:Fun K "_law_names" "_law_names" s_l_names f fd) (nb:NB mg):FnOk P w K mg base CX0 1 f fd ["_law_cell_here"] sp_l_names:=by
 have sc:=sc_l_names
 refine F.ok sc (fun vs H Q E h=>?_) (fun cdv A outer s H vs Q E hr h=>?_)
 ·obtain ⟨c,rfl,_⟩:=h;rfl
 ·obtain ⟨c,rfl,q⟩:=h
  refine ⟨_,(pss_cons (ps_set (i:=1) sc.nd rfl (Or.inr rfl) pe_str)
   (pss_cons (ps_set (i:=2) sc.nd rfl (Or.inr rfl) (pe_op op_fdivP (pv 0) pe_int))
   (pss_cons (ps_setcomp (i:=3) ["_law_k"] [1,2] sc.nd rfl (Or.inl rfl) rfl  rfl (CompOk.of (by kernel_rfl)) (by kernel_rfl) (pi_range1 rfl nb.range (pa_cons (pe_op op_add pe_int (pe_op op_mod (pv 0) pe_int)) pa_nil))
    (fun _ _ _ _=>(pg_name (i:=0) (by show (["_law_k","_law_letters","_law_rest"]:List Str).Nodup;decide +kernel) rfl (Or.inl rfl))) (fun _ _ _ _=>pif_nil) (fun _ _ _ _=>(pe_ix ix_str (pv 1) (pe_op op_mod (pe_op op_fdivP (pv 2) (pe_op op_add pe_int (pe_op op_mul pe_int (pv 0)))) pe_int) (fun _ _=>rfl))))
   (pss_cons (ps_set (i:=4) sc.nd rfl (Or.inl rfl) (pe_op op_mod (pv 2) (pe_callB call_lenL rfl nb.len bt_len (pa_cons (pv 3) pa_nil))))
   (pss_cons (ps_set (i:=5) sc.nd rfl (Or.inl rfl) (pe_bm PySem.F.plainAttrs_str PySem.F.slot_str_find PySem.F.type_str_find mt_find (pv 1) (pa_cons (pe_ix ix_list (pv 3) (pv 4) (fun _ _=>rfl)) pa_nil)))
   (pss_cons (ps_set (i:=6) sc.nd rfl (Or.inl rfl) (pe_op op_mul (pe_op op_add pe_int (pe_op op_mod (pe_op op_fdivP (pv 2) pe_int) pe_int)) (pe_op op_mod (pe_op op_fdivP (pv 0) pe_int) pe_int)))
   (pss_cons (ps_set (i:=7) sc.nd rfl (Or.inl rfl) (pe_lst pa_nil))
   (pss_cons (ps_forw PassesOwn.never rfl (pi_range1 rfl nb.range (pa_consI pa_nil)) (pg_name (i:=8) sc.nd rfl (Or.inl rfl))
   (pss_cons (ps_asg (pe_ix ix_str (pv 1) (pe_op op_mod (pe_op op_add (pv 5) (pe_op op_mul (pv 8) (pv 6))) pe_int) (fun _ _=>rfl)) (pg_sub (pv 3) (pv 4) set_list))
   (pss_one (ps_expr (pe_bm PySem.F.plainAttrs_list PySem.F.slot_list_append PySem.F.type_list_append mt_append (pv 7) (pa_cons (pe_bm PySem.F.plainAttrs_str PySem.F.slot_str_join PySem.F.type_str_join mt_join pe_str (pa_cons (pv 3) pa_nil)) pa_nil))))))
   (pss_one (ps_ret (pv 7))))))))))),?_⟩
  obtain ⟨m,hm⟩:∃ m:Nat,c % 4=(m:Int):=⟨_,(Int.toNat_of_nonneg (Int.emod_nonneg _ (by omega))).symm⟩
  have m2:m < 4:=by have:=Int.emod_lt_of_pos c (b:=4) (by omega);omega
  refine seq_cut fun N1 h1=>?_
  walk_at "wp"
  refine h1 _ _ ?_
  clear h1
  refine seq_cut fun N1 h1=>?_
  walk_at "wp"
  refine h1 _ _ ?_
  clear h1
  refine seq_cut fun N1 h1=>?_
  walk_at "wp"
  rw [hm]
  have en:(1 + (m:Int)).toNat=1 + m:=by omega
  rw [en]
  refine ⟨by omega,by omega,?_⟩
  have up26:∀ x:Int,∃ n:Nat,n < 26∧x % 26=(n:Int):=fun x=>⟨(x % 26).toNat,by have:=Int.emod_lt_of_pos x (b:=26) (by omega);omega,by have:=Int.emod_nonneg x (b:=26) (by omega);omega⟩
  let fc:Nat→Nat:=fun i=>65 + (c / 8 / (1 + 7 * (i:Int)) % 26).toNat
  refine comp_rangeF (n:=1 + m) (f:=fun i=>some (V.str ⟨#[fc i]⟩)) (fun σ=>∃ x,σ=[x,some (.str "ABCDEFGHIJKLMNOPQRSTUVWXYZ"),some (.int (c / 8))]) ⟨_,rfl⟩ (by omega) ?_ ?_
  ·rintro i hi σ H' N1 N0 ⟨y,rfl⟩ sm k1 k0
   walk_at "wp"
   obtain ⟨n,h1,h2⟩:=up26 (c / 8 / (1 + 7 * (i:Int)))
   refine ⟨by omega,by omega,by decide,fc i,?_,k1 _ _ _ rfl sm ⟨_,rfl⟩⟩
   show atI _ _=some (65 + (c / 8 / (1 + 7 * (i:Int)) % 26).toNat)
   rw [h2]
   exact atI_nat (cap_at n h1)
  ·intro H' sm l hl
   rw [fm_some]
   have e0:(List.range (1 + m)).map (fun i=>V.str ⟨#[fc i]⟩)=(((List.range (1 + m)).map fc).map fun c=>V.str ⟨#[c]⟩):=by rw [List.map_map];rfl
   rw [e0]
   have hcs:∀ x∈(List.range (1 + m)).map fc,capB x=true:=fun x hx=>by
    obtain ⟨i,_,rfl⟩:=List.mem_map.mp hx
    obtain ⟨n,h1,h2⟩:=up26 (c / 8 / (1 + 7 * (i:Int)))
    show capB (65 + (c / 8 / (1 + 7 * (i:Int)) % 26).toNat)=true
    rw [h2]
    exact cap_in n h1
   have hcl:((List.range (1 + m)).map fc).length=1 + m:=by simp
   generalize (List.range (1 + m)).map fc=cs at hcs hcl ⊢
   refine h1 _ _ ?_
   clear h1
   have s1:Same H (upd H' l (.lst (cs.map fun c=>V.str ⟨#[c]⟩))):=sm.trans (same_upd hl)
   have e1:upd H' l (.lst (cs.map fun c=>V.str ⟨#[c]⟩)) l=some (.lst (cs.map fun c=>V.str ⟨#[c]⟩)):=upd_same
   generalize upd H' l (.lst (cs.map fun c=>V.str ⟨#[c]⟩))=H1 at s1 e1 ⊢
   have fr:H l=none:=sm.free hl
   refine seq_cut fun N1 h1=>?_
   walk_at "wp"
   have lm:(cs.map fun c=>V.str ⟨#[c]⟩).length=1 + m:=by rw [List.length_map,hcl]
   refine ⟨_,SqL.of e1,by rw [lm];omega,h1 _ _ ?_⟩
   clear h1
   rw [lm]
   obtain ⟨k,hk⟩:∃ k:Nat,c / 8 % ((1 + m:Nat):Int)=(k:Int):=⟨_,(Int.toNat_of_nonneg (Int.emod_nonneg _ (by omega))).symm⟩
   have hk2:k < 1 + m:=by have:=Int.emod_lt_of_pos (c / 8) (b:=((1 + m:Nat):Int)) (by omega);omega
   rw [hk]
   refine seq_cut fun N1 h1=>?_
   walk_at "wp"
   refine ⟨rfl,_,SqL.of e1,V.str ⟨#[cs[k]'(by omega)]⟩,atI_nat (by rw [List.getElem?_map,List.getElem?_eq_getElem (by omega)];rfl),_,rfl,fun fi=>h1 _ _ ?_⟩
   clear h1
   refine seq_cut fun N1 h1=>?_
   walk_at "wp"
   refine ⟨.inr ⟨by omega,by omega⟩,h1 _ _ ?_⟩
   clear h1
   generalize (1 + c / 8 / 5 % 8) * (c / 4 % 2)=st
   refine seq_cut fun N1 h1=>?_
   walk_at "wp"
   refine ⟨line_le (by decide),fun ln hn=>h1 _ _ ?_⟩
   clear h1
   have hnl:l≠ln:=fun e=>by rw [← e,e1] at hn;cases hn
   have s2:Same H (upd H1 ln (.lst [])):=s1.trans (same_upd hn)
   have e2:upd H1 ln (.lst []) l=some (.lst (cs.map fun c=>V.str ⟨#[c]⟩)):=by rw [upd_ne hnl];exact e1
   have e3:upd H1 ln (.lst []) ln=some (.lst (rowsV [])):=upd_same
   have frn:H ln=none:=s1.free hn
   generalize upd H1 ln (.lst [])=H2 at s2 e2 e3 ⊢
   refine seq_cut fun N1 h1=>?_
   walk_at "wp"
   refine ⟨by decide,?_⟩
   refine forw_range (n:=4) (fun i σ H'=>Same H H'∧(∃ ds:List Nat,H' l=some (.lst (ds.map fun c=>V.str ⟨#[c]⟩))∧(∀ x∈ds,capB x=true)∧ds.length=1 + m)∧(∃ p:Pic,H' ln=some (.lst (rowsV p))∧p.length=i∧∀ r∈p,nameB r=true)∧∃ x,σ=[some (V.int c),some (V.str (Str.ofString "ABCDEFGHIJKLMNOPQRSTUVWXYZ")),some (V.int (c / 8)),some (V.ref l),some (V.int k),some (V.int fi),some (V.int st),some (V.ref ln),x]) ⟨s2,⟨cs,e2,hcs,hcl⟩,⟨[],e3,rfl,fun r hr=>nomatch hr⟩,_,rfl⟩ ?_ ?_
   ·rintro i σ H' hi ⟨sm',⟨ds,hds,dcap,dl⟩,⟨p,hp,pl,pn⟩,x,rfl⟩
    walk_at "wp"
    obtain ⟨n,hn1,hn2⟩:=up26 (fi + (i:Int) * st)
    have nm:nameB (ds.set k (65 + n))=true:=by
     have hall:(ds.set k (65 + n)).all (inT CAPS)=true:=List.all_eq_true.mpr fun x hx=>by
      rcases List.mem_or_eq_of_mem_set hx with h | h
      ·exact dcap x h
      ·rw [h];exact cap_in n hn1
     unfold nameB onlyB
     rw [hall,List.length_set,dl]
     simp
     omega
    have es:(ds.map fun c=>V.str ⟨#[c]⟩).set k (V.str ⟨#[65 + n]⟩)=(ds.set k (65 + n)).map fun c=>V.str ⟨#[c]⟩:=by rw [List.map_set]
    refine ⟨.inl ⟨by omega,by omega⟩,by decide,65 + n,by rw [hn2];exact atI_nat (cap_at n hn1),_,hds,k,by rw [List.length_map,dl];unfold ixN;rw [if_pos (by omega),if_pos (by omega)];simp,?_⟩
    rw [es]
    have t1:upd H' l (.lst ((ds.set k (65 + n)).map fun c=>V.str ⟨#[c]⟩)) l=some (.lst ((ds.set k (65 + n)).map fun c=>V.str ⟨#[c]⟩)):=upd_same
    have t2:upd H' l (.lst ((ds.set k (65 + n)).map fun c=>V.str ⟨#[c]⟩)) ln=some (.lst (rowsV p)):=by rw [upd_ne (Ne.symm hnl)];exact hp
    have t3:Same H (upd H' l (.lst ((ds.set k (65 + n)).map fun c=>V.str ⟨#[c]⟩))):=same_upd2 sm' fr
    generalize upd H' l (.lst ((ds.set k (65 + n)).map fun c=>V.str ⟨#[c]⟩))=H3 at t1 t2 t3 ⊢
    refine ⟨.inl ⟨rfl,_,SqL.of t2⟩,rfl,(ds.set k (65 + n)).map fun c=>(⟨#[c]⟩:Str),.inl (SqL.of (by rw [t1,List.map_map];rfl)),?_,_,t2,?_,?_⟩
    ·have e1:((fun y:Str=>y.length) ∘ fun c=>(⟨#[c]⟩:Str))=fun _=>1:=by funext c;rfl
     have e0:(Str.ofString "").length=0:=rfl
     rw [List.map_map,e1,List.map_const',List.sum_replicate_nat,List.length_map,e0,List.length_set]
     omega
    ·rw [rowsV_length,pl];exact line_big (by omega)
    ·rw [join_ones]
     refine ⟨same_upd2 t3 frn,⟨ds.set k (65 + n),by rw [upd_ne hnl];exact t1,fun x hx=>?_,by rw [List.length_set,dl]⟩,p ++ [ds.set k (65 + n)],?_,by rw [List.length_append,pl];rfl,fun r hr=>?_⟩
     ·rcases List.mem_or_eq_of_mem_set hx with h | h
      ·exact dcap x h
      ·rw [h];exact cap_in n hn1
     ·rw [upd_same];unfold rowsV;rw [List.map_append];rfl
     ·rcases List.mem_append.mp hr with h | h
      ·exact pn r h
      ·rw [List.mem_singleton.mp h];exact nm
   ·rintro σ H' ⟨sm',_,⟨p,hp,pl,pn⟩,x,rfl⟩
    refine h1 _ _ ?_
    walk_at "wp"
    exact q ln p H' frn hp pl pn sm'
theorem catT_do {H:Hp} {a b:Addr} {xs ys:List V} {Q:VK} (ha:H a=some (.tup xs)) (hb:H b=some (.tup ys)) (hx:xs≠[]) (hy:ys≠[]) (hz:xs.length + ys.length≤1000) (q:∀ p,H p=none→Q (.ref p) (upd H p (.tup (xs ++ ys)))):rCatT K (.ref a) (.ref b) H Q:=
 ⟨a,b,xs,ys,rfl,rfl,SqT.of ha,SqT.of hb,hx,line_le (by omega),fun e=>absurd e hy,fun _=>q⟩
def rowV (r:Nat × RV):List V:=match r.1 with
 | 0=>[.str "cell",.str (tx r.2.n),.int r.2.c,.str (tx r.2.sg)]
 | 1=>[.str "beside",.str (tx r.2.n),.int r.2.c,.str (tx r.2.o1),.str (tx r.2.o2)]
 | 2=>[.str "above",.str (tx r.2.n),.int r.2.c,.str (tx r.2.o1),.str (tx r.2.o2)]
 | _=>[.str "turned",.str (tx r.2.n),.int r.2.c,.str (tx r.2.o1),.int r.2.t]
def RowsAt (H:Hp) (l:Addr) (ts:List Addr) (rs:List (Nat × RV)):Prop:=H l=some (.lst (ts.map V.ref))∧ts.length=rs.length∧∀ (i:Nat) t r,ts[i]?=some t→rs[i]?=some r→H t=some (.tup (rowV r))
theorem RowsAt.up {H H':Hp} {l:Addr} {ts:List Addr} {rs:List (Nat × RV)} (h:RowsAt H l ts rs) (s:Same H H'):RowsAt H' l ts rs:=⟨s _ _ h.1,h.2.1,fun i t r e1 e2=>s _ _ (h.2.2 i t r e1 e2)⟩
theorem kn1:V.str (Str.ofString "beside")≠V.str (Str.ofString "cell"):=fun h=>absurd (V.str.inj h) (by decide +kernel)
theorem kn2:V.str (Str.ofString "above")≠V.str (Str.ofString "cell"):=fun h=>absurd (V.str.inj h) (by decide +kernel)
theorem kn3:V.str (Str.ofString "turned")≠V.str (Str.ofString "cell"):=fun h=>absurd (V.str.inj h) (by decide +kernel)
theorem kn4:V.str (Str.ofString "above")≠V.str (Str.ofString "beside"):=fun h=>absurd (V.str.inj h) (by decide +kernel)
theorem kn5:V.str (Str.ofString "turned")≠V.str (Str.ofString "beside"):=fun h=>absurd (V.str.inj h) (by decide +kernel)
theorem kn6:V.str (Str.ofString "turned")≠V.str (Str.ofString "above"):=fun h=>absurd (V.str.inj h) (by decide +kernel)
theorem kn7:V.str (Str.ofString "beside")≠V.str (Str.ofString "turned"):=fun h=>absurd (V.str.inj h) (by decide +kernel)
theorem kn8:V.str (Str.ofString "above")≠V.str (Str.ofString "turned"):=fun h=>absurd (V.str.inj h) (by decide +kernel)
theorem k_cases {k:Nat} (h:k < 4):k=0∨k=1∨k=2∨k=3:=by omega
structure GoodR (r:Nat × RV):Prop where
 k4:r.1 < 4
 good:r.2.good
 small:r.2.small
abbrev s_l_rule:Stmt:=top 54
def sp_l_rule (R:RC):Sp:=fun vs H Q _=>∃ (t:Addr) (r:Nat × RV),vs=[.ref t]∧H t=some (.tup (rowV r))∧GoodR r∧∀ b H',RuleAt R H' r.1 b r.2→Same H H'→Q (.ref b) H'
theorem sc_l_rule:FnScope ["_law_told_here"] ["_law_told_here"] (defScope s_l_rule):=⟨rfl,rfl,rfl,by decide +kernel,rfl,by decide +kernel,by decide +kernel⟩
theorem ok_l_rule {R:RC} {f CF:Addr} {fd:FuncData} (F:Fun K "_law_rule_made" "_law_rule_made" s_l_rule f fd) (nb:NB mg) (rk:RKit K R)
  (zHb:CalK P w K mg base (CX1 P w) 4 "CellRule" R.cc ["self","name","cost","sign"] (sp_cell_init K CF)) (zgb:CalK P w K mg base (CX1 P w) 4 "BesideRule" R.cb ["self","name","cost","one","other"] (sp_pair_init K CF))
  (znb:CalK P w K mg base (CX1 P w) 4 "AboveRule" R.ca ["self","name","cost","one","other"] (sp_pair_init K CF)) (zIb:CalK P w K mg base (CX1 P w) 4 "TurnRule" R.ct ["self","name","cost","part","turning"] (sp_turn_init K CF)):FnOk P w K mg base CX0 6 f fd ["_law_told_here"] (sp_l_rule R):=by
 have sc:=sc_l_rule
 refine F.ok sc (fun vs H Q E h=>?_) (fun cdv A outer s H vs Q E hr h=>?_)
 ·obtain ⟨t,r,rfl,_⟩:=h;rfl
 ·obtain ⟨t,⟨k,v⟩,rfl,ht,⟨hk,g,sm⟩,good⟩:=h
  refine ⟨_,(pss_cons (ps_if (pt_cmpR op_eq (pe_ix ix_tup (pv 0) pe_int (fun _ _=>rfl)) pe_str (nomark _))
   (pss_one (ps_ret (pe_calK (CX:=CX1 P w) zHb (hr.mono (by decide)) rfl passes_E0 (pa_cons (pe_ix ix_tup (pv 0) pe_int (fun _ _=>rfl)) (pa_cons (pe_ix ix_tup (pv 0) pe_int (fun _ _=>rfl)) (pa_cons (pe_ix ix_tup (pv 0) pe_int (fun _ _=>rfl)) pa_nil))))))
   pss_nil)
   (pss_cons (ps_if (pt_cmpR op_eq (pe_ix ix_tup (pv 0) pe_int (fun _ _=>rfl)) pe_str (nomark _))
   (pss_one (ps_ret (pe_calK (CX:=CX1 P w) zgb (hr.mono (by decide)) rfl passes_E0 (pa_cons (pe_ix ix_tup (pv 0) pe_int (fun _ _=>rfl)) (pa_cons (pe_ix ix_tup (pv 0) pe_int (fun _ _=>rfl)) (pa_cons (pe_ix ix_tup (pv 0) pe_int (fun _ _=>rfl)) (pa_cons (pe_ix ix_tup (pv 0) pe_int (fun _ _=>rfl)) pa_nil)))))))
   pss_nil)
   (pss_cons (ps_if (pt_cmpR op_eq (pe_ix ix_tup (pv 0) pe_int (fun _ _=>rfl)) pe_str (nomark _))
   (pss_one (ps_ret (pe_calK (CX:=CX1 P w) znb (hr.mono (by decide)) rfl passes_E0 (pa_cons (pe_ix ix_tup (pv 0) pe_int (fun _ _=>rfl)) (pa_cons (pe_ix ix_tup (pv 0) pe_int (fun _ _=>rfl)) (pa_cons (pe_ix ix_tup (pv 0) pe_int (fun _ _=>rfl)) (pa_cons (pe_ix ix_tup (pv 0) pe_int (fun _ _=>rfl)) pa_nil)))))))
   pss_nil)
   (pss_one (ps_ret (pe_calK (CX:=CX1 P w) zIb (hr.mono (by decide)) rfl passes_E0 (pa_cons (pe_ix ix_tup (pv 0) pe_int (fun _ _=>rfl)) (pa_cons (pe_ix ix_tup (pv 0) pe_int (fun _ _=>rfl)) (pa_cons (pe_ix ix_tup (pv 0) pe_int (fun _ _=>rfl)) (pa_cons (pe_ix ix_tup (pv 0) pe_int (fun _ _=>rfl)) pa_nil)))))))))),?_⟩
  have sq:=SqT.of (K:=K) ht
  have g:v.good:=g
  have sm:v.small:=g.small
  have bn:v.n.length≤100000:=by have:=sm.n;omega
  have b1:v.o1.length≤100000:=by have:=sm.o1;omega
  have b2:v.o2.length≤100000:=by have:=sm.o2;omega
  have bs:v.sg.length≤100000:=by have:=sm.sg;omega
  walk_at "wp"
  rcases k_cases hk with rfl | rfl | rfl | rfl
  ·change SqT K H t [.str (Str.ofString "cell"),.str (tx v.n),.int v.c,.str (tx v.sg)] at sq
   refine ⟨_,sq,_,rfl,rfl,?_⟩
   rw [if_pos rfl]
   refine ⟨_,sq,_,rfl,_,sq,_,rfl,_,sq,_,rfl,fun x dx hx hd hne=>?_⟩
   exact ⟨x,R.cc,dx,v.n,v.sg,v.c,rfl,upd_same,rk.i0.cl,rk.a0,bn,bs,fun ok pl H' sx hpl hl' ha=>⟨rfl,good x H' ⟨dx,pl,ha,hl'⟩ (sameX_new hx hd sx)⟩,fun nok=>absurd (g.ok 0) nok⟩
  ·change SqT K H t [.str (Str.ofString "beside"),.str (tx v.n),.int v.c,.str (tx v.o1),.str (tx v.o2)] at sq
   refine ⟨_,sq,_,rfl,rfl,?_⟩
   rw [if_neg kn1]
   refine ⟨_,sq,_,rfl,rfl,?_⟩
   rw [if_pos rfl]
   refine ⟨_,sq,_,rfl,_,sq,_,rfl,_,sq,_,rfl,_,sq,_,rfl,fun x dx hx hd hne=>?_⟩
   exact ⟨x,R.cb,dx,v.n,v.o1,v.o2,v.c,rfl,upd_same,rk.i1.cl,rk.a1,bn,b1,b2,fun ok pl H' sx hpl hl' ha=>⟨rfl,good x H' ⟨dx,pl,ha,hl'⟩ (sameX_new hx hd sx)⟩,fun nok=>absurd (g.ok 1) nok⟩
  ·change SqT K H t [.str (Str.ofString "above"),.str (tx v.n),.int v.c,.str (tx v.o1),.str (tx v.o2)] at sq
   refine ⟨_,sq,_,rfl,rfl,?_⟩
   rw [if_neg kn2]
   refine ⟨_,sq,_,rfl,rfl,?_⟩
   rw [if_neg kn4]
   refine ⟨_,sq,_,rfl,rfl,?_⟩
   rw [if_pos rfl]
   refine ⟨_,sq,_,rfl,_,sq,_,rfl,_,sq,_,rfl,_,sq,_,rfl,fun x dx hx hd hne=>?_⟩
   exact ⟨x,R.ca,dx,v.n,v.o1,v.o2,v.c,rfl,upd_same,rk.i2.cl,rk.a2,bn,b1,b2,fun ok pl H' sx hpl hl' ha=>⟨rfl,good x H' ⟨dx,pl,ha,hl'⟩ (sameX_new hx hd sx)⟩,fun nok=>absurd (g.ok 2) nok⟩
  ·change SqT K H t [.str (Str.ofString "turned"),.str (tx v.n),.int v.c,.str (tx v.o1),.int v.t] at sq
   refine ⟨_,sq,_,rfl,rfl,?_⟩
   rw [if_neg kn3]
   refine ⟨_,sq,_,rfl,rfl,?_⟩
   rw [if_neg kn5]
   refine ⟨_,sq,_,rfl,rfl,?_⟩
   rw [if_neg kn6]
   refine ⟨_,sq,_,rfl,_,sq,_,rfl,_,sq,_,rfl,_,sq,_,rfl,fun x dx hx hd hne=>?_⟩
   exact ⟨x,R.ct,dx,v.n,v.o1,v.c,v.t,rfl,upd_same,rk.i3.cl,rk.a3,bn,b1,fun ok pl H' sx hpl hl' ha=>⟨rfl,good x H' ⟨dx,pl,ha,hl'⟩ (sameX_new hx hd sx)⟩,fun nok=>absurd (g.ok 3) nok⟩
abbrev s_l_parts:Stmt:=top 53
def sp_l_parts:Sp:=fun vs H Q _=>∃ (t:Addr) (r:Nat × RV),vs=[.ref t]∧H t=some (.tup (rowV r))∧r.1 < 4∧GivesPic H (partsK r.1 r.2) Q
theorem sc_l_parts:FnScope ["_law_told_here"] ["_law_told_here"] (defScope s_l_parts):=⟨rfl,rfl,rfl,by decide +kernel,rfl,by decide +kernel,by decide +kernel⟩
theorem ok_l_parts {f:Addr} {fd:FuncData} (F:Fun K "_law_parts" "_law_parts" s_l_parts f fd) (nb:NB mg):FnOk P w K mg base CX0 1 f fd ["_law_told_here"] sp_l_parts:=by
 have sc:=sc_l_parts
 refine F.ok sc (fun vs H Q E h=>?_) (fun cdv A outer s H vs Q E hr h=>?_)
 ·obtain ⟨t,r,rfl,_⟩:=h;rfl
 ·obtain ⟨t,⟨k,v⟩,rfl,ht,hk,good⟩:=h
  refine ⟨_,(pss_cons (ps_if (pt_cmpR op_eq (pe_ix ix_tup (pv 0) pe_int (fun _ _=>rfl)) pe_str (nomark _))
   (pss_one (ps_ret (pe_lst pa_nil)))
   pss_nil)
   (pss_cons (ps_if (pt_cmpR op_eq (pe_ix ix_tup (pv 0) pe_int (fun _ _=>rfl)) pe_str (nomark _))
   (pss_one (ps_ret (pe_lst (pa_cons (pe_ix ix_tup (pv 0) pe_int (fun _ _=>rfl)) pa_nil))))
   pss_nil)
   (pss_one (ps_ret (pe_lst (pa_cons (pe_ix ix_tup (pv 0) pe_int (fun _ _=>rfl)) (pa_cons (pe_ix ix_tup (pv 0) pe_int (fun _ _=>rfl)) pa_nil))))))),?_⟩
  have sq:=SqT.of (K:=K) ht
  walk_at "wp"
  have give:∀ (ps:Pic) (xs:List V),rowsV ps=xs→partsK k v=ps→∀ p,H p=none→Q (.ref p) (upd H p (.lst xs)):=fun ps xs e1 e2 p hp=>good p _ hp (by show upd H p _ p=some (.lst (rowsV (partsK k v)));rw [upd_same,e2,e1]) (same_upd hp)
  rcases k_cases hk with rfl | rfl | rfl | rfl
  ·change SqT K H t [.str (Str.ofString "cell"),.str (tx v.n),.int v.c,.str (tx v.sg)] at sq
   refine ⟨_,sq,_,rfl,rfl,?_⟩
   rw [if_pos rfl]
   exact ⟨Nat.zero_le _,give [] [] rfl rfl⟩
  ·change SqT K H t [.str (Str.ofString "beside"),.str (tx v.n),.int v.c,.str (tx v.o1),.str (tx v.o2)] at sq
   refine ⟨_,sq,_,rfl,rfl,?_⟩
   rw [if_neg kn1]
   refine ⟨_,sq,_,rfl,rfl,?_⟩
   rw [if_neg kn7]
   exact ⟨_,sq,_,rfl,_,sq,_,rfl,line_le (by decide),give [v.o1,v.o2] _ rfl rfl⟩
  ·change SqT K H t [.str (Str.ofString "above"),.str (tx v.n),.int v.c,.str (tx v.o1),.str (tx v.o2)] at sq
   refine ⟨_,sq,_,rfl,rfl,?_⟩
   rw [if_neg kn2]
   refine ⟨_,sq,_,rfl,rfl,?_⟩
   rw [if_neg kn8]
   exact ⟨_,sq,_,rfl,_,sq,_,rfl,line_le (by decide),give [v.o1,v.o2] _ rfl rfl⟩
  ·change SqT K H t [.str (Str.ofString "turned"),.str (tx v.n),.int v.c,.str (tx v.o1),.int v.t] at sq
   refine ⟨_,sq,_,rfl,rfl,?_⟩
   rw [if_neg kn3]
   refine ⟨_,sq,_,rfl,rfl,?_⟩
   rw [if_pos rfl]
   exact ⟨_,sq,_,rfl,line_le (by decide),give [v.o1] _ rfl rfl⟩
structure RowOf (p:Pic) (sg:List Nat) (r:Nat × RV):Prop where
 good:GoodR r
 n:r.2.n∈p
 o1:r.2.o1∈p
 o2:r.2.o2∈p
 sg:∃ c∈sg,r.2.sg=[c]
theorem RowsAt.app {H:Hp} {l t:Addr} {ts:List Addr} {rs:List (Nat × RV)} {r:Nat × RV} (h:RowsAt H l ts rs) (ht:H t=some (.tup (rowV r))):RowsAt (upd H l (.lst (ts.map V.ref ++ [V.ref t]))) l (ts ++ [t]) (rs ++ [r]):=by
 obtain ⟨h1,h2,h3⟩:=h
 refine ⟨by rw [upd_same,List.map_append];rfl,by rw [List.length_append,List.length_append,h2];rfl,fun i t' r' e1 e2=>?_⟩
 have hold:∀ t' r',H t'=some (.tup (rowV r'))→upd H l (.lst (ts.map V.ref ++ [V.ref t])) t'=some (.tup (rowV r')):=fun t' r' e=>by
  rw [upd_ne (fun z=>by rw [z,h1] at e;cases e)];exact e
 by_cases hi:i < ts.length
 ·rw [List.getElem?_append_left hi] at e1
  rw [List.getElem?_append_left (by omega)] at e2
  exact hold _ _ (h3 i t' r' e1 e2)
 ·rw [List.getElem?_append_right (by omega)] at e1
  rw [List.getElem?_append_right (by omega)] at e2
  have hi2:i=ts.length:=by
   have:=(List.getElem?_eq_some_iff.mp e1).1
   simp at this;omega
  subst hi2
  rw [Nat.sub_self] at e1
  rw [h2,Nat.sub_self] at e2
  cases e1;cases e2
  exact hold _ _ ht
theorem signsB_only {r:List Nat} (h:signsB r=true):onlyB r SMALLS11=true:=by
 unfold signsB at h
 simp only [Bool.and_eq_true,decide_eq_true_eq] at h
 exact h.1.2
theorem sign_of {r:List Nat} {c:Nat} (h:signsB r=true) (hc:c∈r):signB [c]=true:=by
 have:=signsB_only h
 unfold onlyB at this
 rw [List.all_eq_true] at this
 unfold signB onlyB
 rw [List.all_cons,this c hc]
 rfl
def addNew (ks:List Str) (z:Str):List Str:=if z∈ks then ks else ks ++ [z]
theorem keys_name (m:List (Str × List Nat)) (z:Str):(ntName m z).map (·.1)=addNew (m.map (·.1)) z:=by
 unfold ntName addNew
 split
 ·rfl
 ·rw [List.map_append];rfl
theorem keys_names:∀ (zs:List Str) (m:List (Str × List Nat)),(zs.foldl ntName m).map (·.1)=zs.foldl addNew (m.map (·.1))
 | [],_=>rfl
 | z :: zs,m=>by rw [List.foldl_cons,List.foldl_cons,keys_names zs,keys_name]
theorem keys_step (m:List (Str × List Nat)) (i:Nat) (r:Nat × RV):(numStep m i r).map (·.1)=(tx r.2.n :: (partsK r.1 r.2).map tx).foldl addNew (m.map (·.1)):=by
 unfold numStep
 rw [keys_names,ntPut_keys,keys_name,List.foldl_cons]
theorem addNew_len (ks:List Str) (z:Str):(addNew ks z).length≤ks.length + 1:=by
 unfold addNew;split
 ·omega
 ·simp
def idxOf (z:Str) (rs:List (Nat × RV)):List Nat:=rs.zipIdx.filterMap fun x=>if tx x.1.2.n=z then some x.2 else none
theorem idxOf_snoc (z:Str) (rs:List (Nat × RV)) (r:Nat × RV):idxOf z (rs ++ [r])=idxOf z rs ++ if tx r.2.n=z then [rs.length] else []:=by
 unfold idxOf
 rw [List.zipIdx_append,List.filterMap_append]
 congr 1
 simp
 split <;> rename_i h <;> simp [h]
theorem idxOf_none {z:Str}:∀ {rs:List (Nat × RV)},(∀ r∈rs,tx r.2.n≠z)→idxOf z rs=[]:=by
 intro rs h
 unfold idxOf
 rw [List.filterMap_eq_nil_iff]
 intro x hx
 rw [if_neg (h x.1 (List.fst_mem_of_mem_zipIdx hx))]
structure NI (rs:List (Nat × RV)) (m:List (Str × List Nat)):Prop where
 nd:(m.map (·.1)).Nodup
 ix:∀ q∈m,q.2=idxOf q.1 rs
 all:∀ r∈rs,tx r.2.n∈m.map (·.1)
theorem ntName_mem {m:List (Str × List Nat)} {z y:Str}:y∈(ntName m z).map (·.1)↔y∈m.map (·.1)∨y=z:=by
 unfold ntName
 split
 ·rename_i h
  exact ⟨fun q=>.inl q,fun q=>q.elim id fun e=>e ▸ h⟩
 ·rw [List.map_append,List.mem_append];simp
theorem NI.name {rs:List (Nat × RV)} {m:List (Str × List Nat)} (h:NI rs m) (z:Str):NI rs (ntName m z):=by
 refine ⟨ntName_nodup h.nd,fun q hq=>?_,fun r hr=>ntName_mem.mpr (.inl (h.all r hr))⟩
 unfold ntName at hq
 split at hq
 ·exact h.ix q hq
 ·rename_i hz
  rcases List.mem_append.mp hq with q1 | q1
  ·exact h.ix q q1
  ·rw [List.mem_singleton.mp q1]
   exact (idxOf_none (z:=z) fun r hr e=>hz (by rw [← e];exact h.all r hr)).symm
theorem NI.names {rs:List (Nat × RV)}:∀ (zs:List Str) {m:List (Str × List Nat)},NI rs m→NI rs (zs.foldl ntName m)
 | [],_,h=>h
 | z :: zs,m,h=>NI.names zs (h.name z)
theorem NI.put {rs:List (Nat × RV)} {m:List (Str × List Nat)} {r:Nat × RV} (h:NI rs m) (hn:tx r.2.n∈m.map (·.1)):NI (rs ++ [r]) (ntPut m (tx r.2.n) rs.length):=by
 refine ⟨by rw [ntPut_keys];exact h.nd,fun q hq=>?_,fun r' hr'=>?_⟩
 ·unfold ntPut at hq
  obtain ⟨p,hp,rfl⟩:=List.mem_map.mp hq
  rw [idxOf_snoc]
  by_cases e:p.1=tx r.2.n
  ·rw [if_pos e]
   show p.2 ++ [rs.length]=idxOf p.1 rs ++ _
   rw [if_pos e.symm,h.ix p hp]
  ·rw [if_neg e,if_neg (fun z=>e z.symm),List.append_nil]
   exact h.ix p hp
 ·rw [ntPut_keys]
  rcases List.mem_append.mp hr' with q | q
  ·exact h.all r' q
  ·rw [List.mem_singleton.mp q];exact hn
theorem numsGo_NI (z:Str):∀ (n:Nat) (rs:List (Nat × RV)),rs.length=n→NI rs (numsOf z rs)
 | 0,rs,h=>by
  rw [List.length_eq_zero_iff.mp h]
  exact ⟨by simp [numsOf,numsGo],fun q hq=>by rw [show q=(z,[]) by simpa [numsOf,numsGo] using hq];rfl,fun r hr=>nomatch hr⟩
 | n + 1,rs,h=>by
  obtain ⟨rs',r,rfl⟩:∃ rs' r,rs=rs' ++ [r]:=⟨rs.dropLast,rs.getLast (by intro e;rw [e] at h;cases h),(List.dropLast_concat_getLast _).symm⟩
  have hl:rs'.length=n:=by rw [List.length_append,List.length_singleton] at h;omega
  have ih:=numsGo_NI z n rs' hl
  unfold numsOf at ih ⊢
  rw [numsGo_snoc,Nat.zero_add]
  unfold numStep
  exact ((ih.name (tx r.2.n)).put (ntName_mem.mpr (.inr rfl))).names _
theorem RowsAt.zip {H:Hp} {l:Addr} {ts:List Addr} {rs:List (Nat × RV)} (h:RowsAt H l ts rs):(ts.zip rs).map (fun x=>V.ref x.1)=ts.map V.ref∧(ts.zip rs).map (·.2)=rs∧∀ x∈ts.zip rs,H x.1=some (.tup (rowV x.2)):=by
 obtain ⟨h1,h2,h3⟩:=h
 refine ⟨?_,List.map_snd_zip (by omega),fun x hx=>?_⟩
 ·have e:(ts.zip rs).map (fun x=>V.ref x.1)=((ts.zip rs).map Prod.fst).map V.ref:=by rw [List.map_map];rfl
  rw [e,List.map_fst_zip (by omega)]
 ·obtain ⟨i,hi,e⟩:=List.mem_iff_getElem.mp hx
  rw [List.length_zip] at hi
  have e2:(ts.zip rs)[i]?=some x:=by rw [List.getElem?_eq_getElem (by rw [List.length_zip];exact hi),e]
  rw [List.getElem?_zip_eq_some] at e2
  exact h3 i x.1 x.2 e2.1 e2.2
theorem rules_comp {R:RC} {H:Hp} {l:Addr} {ts:List Addr} {rs:List (Nat × RV)} {Q:List V→Hp→Prop} (hR:RowsAt H l ts rs) (hg:∀ r∈rs,GoodR r) (hn:rs.length≤100) (q:∀ (as:List Addr) H',Same H H'→RulesAt R H' as rs→Q (as.map V.ref) H') :
  CompW (Itl K l) (gName 0) tNoIf (tCall (sp_l_rule R) [] E0 (tCons (tVar 0) tNil)) [none] H Q:=by
 obtain ⟨hl,htl,hat⟩:=hR
 refine comp_list (xs:=ts.map V.ref) (fun i acc σ H'=>Same H H'∧(∃ as:List Addr,acc=as.map V.ref∧RulesAt R H' as (rs.take i))∧i≤ts.length∧∃ x,σ=[x]) ⟨Same.refl _,⟨[],rfl,rfl,fun i a r e=>by simp at e⟩,Nat.zero_le _,_,rfl⟩ ?_ ?_ ?_ ?_ ?_
 ·rintro i acc σ H' ⟨_,⟨as,rfl,h,_⟩,hi,_⟩
  rw [List.length_map,h,List.length_take];exact line_big (by omega)
 ·rintro i acc σ H' ⟨_,_,h,_⟩
  rw [List.length_map];exact h
 ·rintro i acc σ H' ⟨sm,_⟩
  exact SqL.of (sm _ _ hl)
 ·rintro i x acc σ H' hx ⟨sm,⟨as,rfl,hA⟩,hi,y,rfl⟩
  have hlt:i < ts.length:=by have:=(List.getElem?_eq_some_iff.mp hx).1;rwa [List.length_map] at this
  rw [List.getElem?_map,List.getElem?_eq_getElem hlt] at hx
  cases hx
  have hlr:i < rs.length:=by omega
  have hrr:rs[i]?=some rs[i]:=List.getElem?_eq_getElem hlr
  have ht:=sm _ _ (hat i ts[i] rs[i] (List.getElem?_eq_getElem hlt) hrr)
  walk_at "wp"
  refine ⟨ts[i],rs[i],rfl,ht,hg _ (List.getElem_mem hlr),fun b H2 hb s2=>⟨sm.trans s2,⟨as ++ [b],by rw [List.map_append];rfl,?_⟩,hlt⟩⟩
  have hal:as.length=i:=by have:=hA.1;rw [List.length_take] at this;omega
  rw [List.take_add_one,hrr]
  refine ⟨by rw [List.length_append,List.length_append,hA.1];rfl,fun j a r e1 e2=>?_⟩
  by_cases hj:j < as.length
  ·rw [List.getElem?_append_left hj] at e1
   rw [List.getElem?_append_left (by rw [← hA.1];exact hj)] at e2
   exact (hA.2 j a r e1 e2).up s2
  ·rw [List.getElem?_append_right (by omega)] at e1
   rw [List.getElem?_append_right (by rw [← hA.1];omega)] at e2
   have:j - as.length=0:=by
    have:=(List.getElem?_eq_some_iff.mp e1).1
    simp at this;omega
   rw [this] at e1
   rw [← hA.1,this] at e2
   cases e1;cases e2
   exact hb
 ·rintro acc σ H' ⟨sm,⟨as,rfl,hA⟩,_⟩
  rw [List.length_map,htl,List.take_length] at hA
  exact q as H' sm hA
def nrs (rs:List (Nat × RV)):List ThM.NR:=rs.map fun r=>(tx r.2.n,(partsK r.1 r.2).map tx)
theorem addNew_mem {ks:List Str} {z y:Str}:y∈addNew ks z↔y∈ks∨y=z:=ThM.mem_addNew
theorem fold_mem {y:Str}:∀ (zs ks:List Str),y∈zs.foldl addNew ks↔y∈ks∨y∈zs
 | [],ks=>by simp
 | z :: zs,ks=>by
  rw [List.foldl_cons,fold_mem zs,addNew_mem,List.mem_cons]
  exact ⟨fun h=>h.elim (fun h=>h.elim .inl fun e=>.inr (.inl e)) fun h=>.inr (.inr h),fun h=>h.elim (fun h=>.inl (.inl h)) fun h=>h.elim (fun e=>.inl (.inr e)) .inr⟩
theorem fold_len:∀ (zs ks:List Str),(zs.foldl addNew ks).length≤ks.length + zs.length
 | [],ks=>Nat.le_refl _
 | z :: zs,ks=>by
  have h1:=fold_len zs (addNew ks z)
  have h2:=addNew_len ks z
  rw [List.foldl_cons,List.length_cons];omega
theorem keys_snoc (z:Str) (rs:List (Nat × RV)) (r:Nat × RV):(numsOf z (rs ++ [r])).map (·.1)=(tx r.2.n :: (partsK r.1 r.2).map tx).foldl addNew ((numsOf z rs).map (·.1)):=by
 unfold numsOf
 rw [numsGo_snoc,keys_step]
theorem snoc_ind {α:Type} {P:List α→Prop} (h0:P []) (h1:∀ rs r,P rs→P (rs ++ [r])) (rs:List α):P rs:=by
 have:∀ (n:Nat) (rs:List α),rs.length=n→P rs:=by
  intro n
  induction n with
  | zero=>intro rs h;rw [List.length_eq_zero_iff.mp h];exact h0
  | succ n ih=>
   intro rs h
   have hne:rs≠[]:=by intro e;rw [e] at h;cases h
   rw [← List.dropLast_concat_getLast hne]
   exact h1 _ _ (ih _ (by rw [List.length_dropLast];omega))
 exact this _ rs rfl
theorem keys_mem (z:Str) (rs:List (Nat × RV)):∀ y,y∈(numsOf z rs).map (·.1)↔y=z∨∃ r∈nrs rs,y=r.1∨y∈r.2:=by
 refine snoc_ind (P:=fun rs=>∀ y,y∈(numsOf z rs).map (·.1)↔y=z∨∃ r∈nrs rs,y=r.1∨y∈r.2) ?_ ?_ rs
 ·intro y
  have e:(numsOf z []).map (·.1)=[z]:=rfl
  rw [e]
  unfold nrs
  simp
 ·intro rs r ih y
  rw [keys_snoc,fold_mem,ih y,List.mem_cons]
  unfold nrs
  rw [List.map_append]
  constructor
  ·rintro ((h | ⟨q,hq,h⟩) | h)
   ·exact .inl h
   ·exact .inr ⟨q,List.mem_append.mpr (.inl hq),h⟩
   ·exact .inr ⟨_,List.mem_append.mpr (.inr (List.mem_singleton.mpr rfl)),h⟩
  ·rintro (h | ⟨q,hq,h⟩)
   ·exact .inl (.inl h)
   ·rcases List.mem_append.mp hq with hq | hq
    ·exact .inl (.inr ⟨q,hq,h⟩)
    ·rw [List.mem_singleton.mp hq] at h
     exact .inr h
theorem inS_mem {sg:List Nat} {c:Nat} (h:c∈sg):inS (tx sg) (tx [c])=true:=by
 have:=StrLaws.found_one (tx sg) c
 show (!(Builtin.Str.occurrences (tx sg) ⟨#[c]⟩ 0 (tx sg).length 1).isEmpty)=true
 rw [this,tx_list,decide_eq_true h]
theorem badSign_none {sg:List Nat}:∀ {rs:List (Nat × RV)} {j:Nat},(∀ r∈rs,∃ c∈sg,r.2.sg=[c])→badSign (tx sg) rs j=none
 | [],_,_=>rfl
 | r :: rs,j,h=>by
  obtain ⟨c,hc,e⟩:=h r List.mem_cons_self
  unfold badSign
  rw [if_neg (fun z=>by rw [e,inS_mem hc] at z;exact absurd z.2 (by decide))]
  exact badSign_none fun r' hr'=>h r' (List.mem_cons_of_mem _ hr')
theorem rows_make {p:Pic} {sg st:List Nat} {rs:List (Nat × RV)} (hsg:signsB sg=true) (hst:st∈p) (hpn:∀ r∈p,nameB r=true) (hp:p.length≤8) (hn:rs.length≤24) (hr:∀ r∈rs,RowOf p sg r):gFault sg st rs=none:=by
 have h0:gFault0 sg st rs=none:=by
  unfold gFault0
  rw [if_neg (by rw [hsg];decide),if_neg (by rw [hpn _ hst];decide),if_neg (by omega),badSign_none fun r h=>(hr r h).sg]
 unfold gFault
 rw [h0]
 simp only []
 rw [if_neg]
 have hk:∀ z∈(numsOf (tx st) rs).map (·.1),z∈p.map tx:=fun z hz=>by
  rcases (keys_mem _ _ _).mp hz with e | ⟨q,hq,e⟩
  ·rw [e];exact List.mem_map_of_mem hst
  ·unfold nrs at hq
   obtain ⟨r,hr',rfl⟩:=List.mem_map.mp hq
   have R:=hr r hr'
   rcases e with e | e
   ·rw [e];exact List.mem_map_of_mem R.n
   ·obtain ⟨y,hy,rfl⟩:=List.mem_map.mp e
    refine List.mem_map_of_mem ?_
    obtain ⟨k,v⟩:=r
    rcases k_cases R.good.k4 with rfl | rfl | rfl | rfl
    ·exact absurd hy List.not_mem_nil
    ·rcases (show y=v.o1∨y=v.o2 by simpa [partsK] using hy) with rfl | rfl
     ·exact R.o1
     ·exact R.o2
    ·rcases (show y=v.o1∨y=v.o2 by simpa [partsK] using hy) with rfl | rfl
     ·exact R.o1
     ·exact R.o2
    ·rw [show y=v.o1 by simpa [partsK] using hy];exact R.o1
 have:=ThM.nd_len (numsGo_NI (tx st) _ rs rfl).nd hk
 rw [List.length_map,List.length_map] at this
 omega
theorem RulesAt.zip {R:RC} {H:Hp} {as:List Addr} {rs:List (Nat × RV)} (h:RulesAt R H as rs):(as.zip rs).map (fun x=>V.ref x.1)=as.map V.ref∧(as.zip rs).map (·.2)=rs∧∀ x∈as.zip rs,RuleAt R H x.2.1 x.1 x.2.2:=by
 refine ⟨?_,List.map_snd_zip (by have:=h.1;omega),fun x hx=>?_⟩
 ·have e:(as.zip rs).map (fun x=>V.ref x.1)=((as.zip rs).map Prod.fst).map V.ref:=by rw [List.map_map];rfl
  rw [e,List.map_fst_zip (by have:=h.1;omega)]
 ·obtain ⟨i,hi,e⟩:=List.mem_iff_getElem.mp hx
  have e2:(as.zip rs)[i]?=some x:=by rw [List.getElem?_eq_getElem hi,e]
  rw [List.getElem?_zip_eq_some] at e2
  exact h.2 i x.1 x.2 e2.1 e2.2
structure GNA (K:W.Frag) (C:Addr):Prop where
 cl:ICls K C
 na:NoAttr K C "signs"∧NoAttr K C "start"∧NoAttr K C "kept"∧NoAttr K C "numbers"
abbrev s_l_drawn_rule:Stmt:=top 55
def sp_l_drawn_rule:Sp:=fun vs H Q _=>∃ (c:Int) (b:Addr) (p:Pic) (sg:List Nat),vs=[.int c,.ref b,.str (tx sg)]∧H b=some (.lst (rowsV p))∧p.length=4∧(∀ r∈p,nameB r=true)∧signsB sg=true ∧
 ∀ t r H',RowOf p sg r→H' t=some (.tup (rowV r))→((c % 4=0→r.1=0)∧(c % 4=1→r.1=3)∧(c % 4≠0→c % 4≠1→r.1=1∨r.1=2))→Same H H'→Q (.ref t) H'
theorem sc_l_drawn_rule:FnScope ["_law_cell_here","_law_names_here","_law_signs_here","_law_rest","_law_head","_law_parts_here"] ["_law_cell_here","_law_names_here","_law_signs_here"] (defScope s_l_drawn_rule):=⟨rfl,rfl,rfl,by decide +kernel,rfl,by decide +kernel,by decide +kernel⟩
theorem ok_l_drawn_rule {f:Addr} {fd:FuncData} (F:Fun K "_law_drawn_rule" "_law_drawn_rule" s_l_drawn_rule f fd) (nb:NB mg):FnOk P w K mg base CX0 1 f fd ["_law_cell_here","_law_names_here","_law_signs_here"] sp_l_drawn_rule:=by
 have sc:=sc_l_drawn_rule
 refine F.ok sc (fun vs H Q E h=>?_) (fun cdv A outer s H vs Q E hr h=>?_)
 ·obtain ⟨c,b,p,sg,rfl,_⟩:=h;rfl
 ·obtain ⟨c,b,p,sg,rfl,hb,hp,hpn,hsg,q⟩:=h
  refine ⟨_,(pss_cons (ps_set (i:=3) sc.nd rfl (Or.inl rfl) (pe_op op_fdivP (pv 0) pe_int))
   (pss_cons (ps_set (i:=4) sc.nd rfl (Or.inl rfl) (pe_tup (pa_cons (pe_ix ix_list (pv 1) (pe_op op_mod (pv 3) pe_int) (fun _ _=>rfl)) (pa_cons (pe_op op_add pe_int (pe_op op_mod (pe_op op_fdivP (pv 3) pe_int) pe_int)) pa_nil))))
   (pss_cons (ps_set (i:=5) sc.nd rfl (Or.inl rfl) (pe_tup (pa_cons (pe_ix ix_list (pv 1) (pe_op op_mod (pe_op op_fdivP (pv 3) pe_int) pe_int) (fun _ _=>rfl)) (pa_cons (pe_ix ix_list (pv 1) (pe_op op_mod (pe_op op_fdivP (pv 3) pe_int) pe_int) (fun _ _=>rfl)) pa_nil))))
   (pss_cons (ps_if (pt_cmpR op_eq (pe_op op_mod (pv 0) pe_int) pe_int (nomark _))
   (pss_one (ps_ret (pe_op op_catT (pe_op op_catT (pe_tup (pa_consS pa_nil)) (pv 4)) (pe_tup (pa_cons (pe_ix ix_str (pv 2) (pe_op op_mod (pe_op op_fdivP (pv 3) pe_int) (pe_callB call_len_str rfl nb.len bt_len (pa_cons (pv 2) pa_nil))) (fun _ _=>rfl)) pa_nil)))))
   pss_nil)
   (pss_cons (ps_if (pt_cmpR op_eq (pe_op op_mod (pv 0) pe_int) pe_int (nomark _))
   (pss_one (ps_ret (pe_op op_catT (pe_op op_catT (pe_tup (pa_consS pa_nil)) (pv 4)) (pe_tup (pa_cons (pe_ix ix_tup (pv 5) pe_int (fun _ _=>rfl)) (pa_cons (pe_op op_mod (pe_op op_fdivP (pv 3) pe_int) pe_int) pa_nil))))))
   pss_nil)
   (pss_one (ps_ret (pe_op op_catT (pe_op op_catT (pe_tup (pa_cons (pe_ix ix_tup (pe_tup (pa_consS (pa_consS pa_nil))) (pe_op op_mod (pv 0) pe_int) (fun _ _=>rfl)) pa_nil)) (pv 4)) (pv 5))))))))),?_⟩
  have hsl:=signsB_len hsg
  have pick:∀ x:Int,∃ z∈p,atI (rowsV p) (x % 4)=some (V.str (tx z)):=fun x=>by
   obtain ⟨j,hj⟩:∃ j:Nat,x % 4=(j:Int):=⟨_,(Int.toNat_of_nonneg (Int.emod_nonneg _ (by omega))).symm⟩
   have:x % 4 < 4:=Int.emod_lt_of_pos _ (by omega)
   exact ⟨p[j]'(by omega),List.getElem_mem _,by rw [hj];exact atI_nat (rowsV_get (by omega))⟩
  have spick:∀ x:Int,∃ c∈sg,atI (tx sg).cps.toList (x % (sg.length:Int))=some c:=fun x=>by
   rw [tx_list]
   exact atI_in (Int.emod_nonneg _ (by omega)) (Int.emod_lt_of_pos _ (by omega))
  have hsz:(tx sg).length≤sizeLine:=by rw [tx_length];exact line_le (by omega)
  refine seq_cut fun N1 h1=>?_
  walk_at "wp"
  refine h1 _ _ ?_
  clear h1
  refine seq_cut fun N1 h1=>?_
  walk_at "wp"
  obtain ⟨z1,hz1,p1⟩:=pick (c / 4)
  refine ⟨_,SqL.of hb,_,p1,line_le (by decide),fun th hth=>h1 _ _ ?_⟩
  clear h1
  have s1:Same H (upd H th (.tup [V.str (tx z1),V.int (1 + c / 4 / 4 % 9)])):=same_upd hth
  have e1:upd H th (.tup [V.str (tx z1),V.int (1 + c / 4 / 4 % 9)]) th=some (.tup [V.str (tx z1),V.int (1 + c / 4 / 4 % 9)]):=upd_same
  generalize upd H th (.tup [V.str (tx z1),V.int (1 + c / 4 / 4 % 9)])=H1 at s1 e1 ⊢
  refine seq_cut fun N1 h1=>?_
  walk_at "wp"
  obtain ⟨z2,hz2,p2⟩:=pick (c / 4 / 36)
  obtain ⟨z3,hz3,p3⟩:=pick (c / 4 / 144)
  refine ⟨_,SqL.of (s1 _ _ hb),_,p2,_,SqL.of (s1 _ _ hb),_,p3,line_le (by decide),fun tp htp=>h1 _ _ ?_⟩
  clear h1
  have s2:Same H1 (upd H1 tp (.tup [V.str (tx z2),V.str (tx z3)])):=same_upd htp
  have e2:upd H1 tp (.tup [V.str (tx z2),V.str (tx z3)]) tp=some (.tup [V.str (tx z2),V.str (tx z3)]):=upd_same
  generalize upd H1 tp (.tup [V.str (tx z2),V.str (tx z3)])=H2 at s2 e2 ⊢
  have e1':=s2 _ _ e1
  have sm:=s1.trans s2
  clear s1 s2 e1
  obtain ⟨ch,hch,pc⟩:=spick (c / 4 / 36)
  have t0:0≤c / 4 / 144 % 8:=Int.emod_nonneg _ (by omega)
  have t7:c / 4 / 144 % 8 < 8:=Int.emod_lt_of_pos _ (by omega)
  have c0:0≤c / 4 / 4 % 9:=Int.emod_nonneg _ (by omega)
  have c9:c / 4 / 4 % 9 < 9:=Int.emod_lt_of_pos _ (by omega)
  have gd:∀ k,k < 4→RowOf p sg (k,⟨z1,1 + c / 4 / 4 % 9,z2,z3,[ch],c / 4 / 144 % 8⟩):=fun k hk=>by
   have g:RV.good ⟨z1,1 + c / 4 / 4 % 9,z2,z3,[ch],c / 4 / 144 % 8⟩:=⟨hpn _ hz1,by show 1≤1 + c / 4 / 4 % 9;omega,by show 1 + c / 4 / 4 % 9≤9;omega,hpn _ hz2,hpn _ hz3,sign_of hsg hch,t0,by show c / 4 / 144 % 8≤7;omega⟩
   exact ⟨⟨hk,g,g.small⟩,hz1,hz2,hz3,ch,hch,rfl⟩
  walk_at "wp"
  by_cases k0:c % 4=0
  ·rw [if_pos k0]
   refine ⟨line_le (by decide),fun p1 hp1=>?_⟩
   refine catT_do upd_same (same_upd hp1 _ _ e1') (by simp) (by simp) (by simp) fun p2 hp2=>?_
   walk_at "wp"
   refine ⟨hsz,by rw [tx_length];omega,hsz,ch,by rw [tx_length];exact pc,line_le (by decide),fun p3 hp3=>?_⟩
   refine catT_do (same_upd hp3 _ _ upd_same) upd_same (by simp) (by simp) (by simp) fun p4 hp4=>?_
   refine q p4 (0,⟨z1,1 + c / 4 / 4 % 9,z2,z3,[ch],c / 4 / 144 % 8⟩) _ (gd 0 (by decide)) upd_same ⟨fun _=>rfl,fun h=>absurd (k0.symm.trans h) (by decide),fun h=>absurd k0 h⟩ (((sm.trans (same_upd hp1)).trans (same_upd hp2)).trans ((same_upd hp3).trans (same_upd hp4)))
  ·rw [if_neg k0]
   by_cases k1:c % 4=1
   ·rw [if_pos k1]
    refine ⟨line_le (by decide),fun p1 hp1=>?_⟩
    refine catT_do upd_same (same_upd hp1 _ _ e1') (by simp) (by simp) (by simp) fun p2 hp2=>?_
    walk_at "wp"
    refine ⟨_,SqT.of (same_upd hp2 _ _ (same_upd hp1 _ _ e2)),_,rfl,line_le (by decide),fun p3 hp3=>?_⟩
    refine catT_do (same_upd hp3 _ _ upd_same) upd_same (by simp) (by simp) (by simp) fun p4 hp4=>?_
    refine q p4 (3,⟨z1,1 + c / 4 / 4 % 9,z2,z3,[ch],c / 4 / 144 % 8⟩) _ (gd 3 (by decide)) upd_same ⟨fun h=>absurd h k0,fun _=>rfl,fun _ h=>absurd k1 h⟩ (((sm.trans (same_upd hp1)).trans (same_upd hp2)).trans ((same_upd hp3).trans (same_upd hp4)))
   ·rw [if_neg k1]
    have two:c % 2=0∨c % 2=1:=by omega
    refine ⟨line_le (by decide),fun p1 hp1=>?_⟩
    rcases two with h2 | h2
    ·rw [h2]
     refine ⟨_,SqT.of upd_same,_,rfl,line_le (by decide),fun p2 hp2=>?_⟩
     refine catT_do upd_same (same_upd hp2 _ _ (same_upd hp1 _ _ e1')) (by simp) (by simp) (by simp) fun p3 hp3=>?_
     refine catT_do upd_same (same_upd hp3 _ _ (same_upd hp2 _ _ (same_upd hp1 _ _ e2))) (by simp) (by simp) (by simp) fun p4 hp4=>?_
     exact q p4 (1,⟨z1,1 + c / 4 / 4 % 9,z2,z3,[ch],c / 4 / 144 % 8⟩) _ (gd 1 (by decide)) upd_same ⟨fun h=>absurd h k0,fun h=>absurd h k1,fun _ _=>.inl rfl⟩ (((sm.trans (same_upd hp1)).trans (same_upd hp2)).trans ((same_upd hp3).trans (same_upd hp4)))
    ·rw [h2]
     refine ⟨_,SqT.of upd_same,_,rfl,line_le (by decide),fun p2 hp2=>?_⟩
     refine catT_do upd_same (same_upd hp2 _ _ (same_upd hp1 _ _ e1')) (by simp) (by simp) (by simp) fun p3 hp3=>?_
     refine catT_do upd_same (same_upd hp3 _ _ (same_upd hp2 _ _ (same_upd hp1 _ _ e2))) (by simp) (by simp) (by simp) fun p4 hp4=>?_
     exact q p4 (2,⟨z1,1 + c / 4 / 4 % 9,z2,z3,[ch],c / 4 / 144 % 8⟩) _ (gd 2 (by decide)) upd_same ⟨fun h=>absurd h k0,fun h=>absurd h k1,fun _ _=>.inr rfl⟩ (((sm.trans (same_upd hp1)).trans (same_upd hp2)).trans ((same_upd hp3).trans (same_upd hp4)))
theorem ins_get {α:Type} {xs:List α} {k:Nat} {y z:α} (hk:k≤xs.length) (h:z∈xs.take k ++ y :: xs.drop k):z∈xs∨z=y:=by
 rcases List.mem_append.mp h with h | h
 ·exact .inl (List.mem_of_mem_take h)
 ·rcases List.mem_cons.mp h with h | h
  ·exact .inr h
  ·exact .inl (List.mem_of_mem_drop h)
theorem mem_ins {α:Type} {xs:List α} {k:Nat} {y z:α} (h:z∈xs∨z=y):z∈xs.take k ++ y :: xs.drop k:=by
 rcases h with h | h
 ·rw [← List.take_append_drop k xs] at h
  rcases List.mem_append.mp h with h | h
  ·exact List.mem_append.mpr (.inl h)
  ·exact List.mem_append.mpr (.inr (List.mem_cons_of_mem _ h))
 ·exact List.mem_append.mpr (.inr (by rw [h];exact List.mem_cons_self))
theorem len_ins {α:Type} {xs:List α} {k:Nat} {y:α} (hk:k≤xs.length):(xs.take k ++ y :: xs.drop k).length=xs.length + 1:=by
 rw [List.length_append,List.length_cons,List.length_take,List.length_drop];omega
theorem get_ins {α:Type} {xs:List α} {k:Nat} {y:α} (hk:k≤xs.length) (i:Nat):(xs.take k ++ y :: xs.drop k)[i]?=if i < k then xs[i]? else if i=k then some y else xs[i - 1]?:=by
 have hl:(xs.take k).length=k:=by rw [List.length_take];omega
 by_cases h1:i < k
 ·rw [if_pos h1,List.getElem?_append_left (by omega),List.getElem?_take_of_lt h1]
 ·rw [if_neg h1,List.getElem?_append_right (by omega),hl]
  by_cases h2:i=k
  ·rw [if_pos h2,h2,Nat.sub_self];rfl
  ·rw [if_neg h2]
   obtain ⟨j,rfl⟩:∃ j,i=k + 1 + j:=⟨i - k - 1,by omega⟩
   rw [show k + 1 + j - k=j + 1 by omega,List.getElem?_cons_succ,List.getElem?_drop,show k + 1 + j - 1=k + j by omega]
def RowsIn (H:Hp) (ts:List Addr) (rs:List (Nat × RV)):Prop:=ts.length=rs.length∧∀ (i:Nat) t r,ts[i]?=some t→rs[i]?=some r→H t=some (.tup (rowV r))
theorem RowsIn.up {H H':Hp} {ts:List Addr} {rs:List (Nat × RV)} (h:RowsIn H ts rs) (s:Same H H'):RowsIn H' ts rs:=⟨h.1,fun i t r e1 e2=>s _ _ (h.2 i t r e1 e2)⟩
theorem RowsIn.app {H:Hp} {t:Addr} {ts:List Addr} {rs:List (Nat × RV)} {r:Nat × RV} (h:RowsIn H ts rs) (ht:H t=some (.tup (rowV r))):RowsIn H (ts ++ [t]) (rs ++ [r]):=by
 refine ⟨by rw [List.length_append,List.length_append,h.1];rfl,fun i t' r' e1 e2=>?_⟩
 by_cases hi:i < ts.length
 ·rw [List.getElem?_append_left hi] at e1
  rw [List.getElem?_append_left (by rw [← h.1];exact hi)] at e2
  exact h.2 i t' r' e1 e2
 ·rw [List.getElem?_append_right (by omega)] at e1
  rw [List.getElem?_append_right (by rw [← h.1];omega)] at e2
  have hi2:i - ts.length=0:=by
   have:=(List.getElem?_eq_some_iff.mp e1).1
   simp at this;omega
  rw [hi2] at e1
  rw [← h.1,hi2] at e2
  cases e1;cases e2
  exact ht
theorem RowsAt.ins {H:Hp} {l t:Addr} {ts:List Addr} {rs:List (Nat × RV)} {r:Nat × RV} {k:Nat} (h:RowsAt H l ts rs) (ht:H t=some (.tup (rowV r))) (hk:k≤ts.length):RowsAt (upd H l (.lst ((ts.map V.ref).take k ++ V.ref t :: (ts.map V.ref).drop k))) l (ts.take k ++ t :: ts.drop k) (rs.take k ++ r :: rs.drop k):=by
 obtain ⟨h1,h2,h3⟩:=h
 have hk2:k≤rs.length:=by omega
 refine ⟨by rw [upd_same,List.map_append,List.map_cons,List.map_take,List.map_drop],by rw [len_ins hk,len_ins hk2,h2],fun i t' r' e1 e2=>?_⟩
 have hold:∀ t' r',H t'=some (.tup (rowV r'))→upd H l (.lst ((ts.map V.ref).take k ++ V.ref t :: (ts.map V.ref).drop k)) t'=some (.tup (rowV r')):=fun t' r' e=>by
  rw [upd_ne (fun z=>by rw [z,h1] at e;cases e)];exact e
 rw [get_ins hk] at e1
 rw [get_ins hk2] at e2
 by_cases c1:i < k
 ·rw [if_pos c1] at e1 e2;exact hold _ _ (h3 i t' r' e1 e2)
 ·rw [if_neg c1] at e1 e2
  by_cases c2:i=k
  ·rw [if_pos c2] at e1 e2;cases e1;cases e2;exact hold _ _ ht
  ·rw [if_neg c2] at e1 e2;exact hold _ _ (h3 (i - 1) t' r' e1 e2)
def npar (rs:List (Nat × RV)) (n:Nat):Nat:=match rs[n]? with | some r=>(partsK r.1 r.2).length | none=>0
theorem npar_get {rs:List (Nat × RV)} {n:Nat} {r:Nat × RV} (h:rs[n]?=some r):npar rs n=(partsK r.1 r.2).length:=by unfold npar;rw [h]
theorem npar_le (rs:List (Nat × RV)) (n:Nat):npar rs n≤2:=by
 unfold npar
 cases rs[n]? with
 | none=>exact Nat.zero_le _
 | some r=>exact partsK_few r.1 r.2
def allK (rs:List (Nat × RV)):Prop:=∀ c,c < 3→∃ r∈rs,(partsK r.1 r.2).length=c
abbrev s_l_rules:Stmt:=top 57
def sp_l_rules (K:W.Frag):Sp:=fun vs H Q _=>∃ (a b:Addr) (ns:List Int) (p:Pic) (sg:List Nat),vs=[.ref a,.ref b,.str (tx sg)]∧SqL K H a (ns.map V.int)∧H b=some (.lst (rowsV p))∧p.length=4∧(∀ r∈p,nameB r=true)∧signsB sg=true ∧
 ∀ l ts rs H',RowsAt H' l ts rs→(∀ r∈rs,RowOf p sg r)→rs.length≤24→allK rs→H l=none→Same H H'→Q (.ref l) H'
theorem sc_l_rules:FnScope ["_law_script","_law_names_here","_law_signs_here","_law_many","_law_rules_here","_law_kind","_law_rest"] ["_law_script","_law_names_here","_law_signs_here"] (defScope s_l_rules):=⟨rfl,rfl,rfl,by decide +kernel,rfl,by decide +kernel,by decide +kernel⟩
theorem ok_l_rules {f:Addr} {fd:FuncData} (F:Fun K "_law_rules" "_law_rules" s_l_rules f fd) (nb:NB mg) (zka:Cal P w K mg base CX0 1 "_law_cell" ["_law_script","_law_k"] (sp_l_cell K)) (zMa:Cal P w K mg base CX0 1 "_law_drawn_rule" ["_law_cell_here","_law_names_here","_law_signs_here"] sp_l_drawn_rule):FnOk P w K mg base CX0 2 f fd ["_law_script","_law_names_here","_law_signs_here"] (sp_l_rules K):=by
 have sc:=sc_l_rules
 refine F.ok sc (fun vs H Q E h=>?_) (fun cdv A outer s H vs Q E hr h=>?_)
 ·obtain ⟨a,b,ns,p,sg,rfl,_⟩:=h;rfl
 ·obtain ⟨a,b,ns,p,sg,rfl,ha,hb,hp,hpn,hsg,q⟩:=h
  refine ⟨_,(pss_cons (ps_set (i:=3) sc.nd rfl (Or.inl rfl) (pe_op op_mod (pe_cal zka (hr.mono (by decide)) rfl pass0 (pa_cons (pv 0) (pa_consI pa_nil))) pe_int))
   (pss_cons (ps_setcomp (i:=4) ["_law_k"] [0,1,2] sc.nd rfl (Or.inl rfl) rfl  rfl (CompOk.of (by kernel_rfl)) (by kernel_rfl) (pi_range1 rfl nb.range (pa_cons (pv 3) pa_nil))
    (fun _ _ _ _=>(pg_name (i:=0) (by show (["_law_k","_law_script","_law_names_here","_law_signs_here"]:List Str).Nodup;decide +kernel) rfl (Or.inl rfl))) (fun _ _ _ _=>pif_nil) (fun _ _ _ _=>(pe_cal zMa (hr.mono (by decide)) rfl pass0 (pa_cons (pe_op op_add (pe_cal zka (hr.mono (by decide)) rfl pass0 (pa_cons (pv 1) (pa_cons (pe_op op_add pe_int (pv 0)) pa_nil))) (pe_op op_mul (pe_op op_mul pe_int (pv 0)) (pv 0))) (pa_cons (pv 2) (pa_cons (pv 3) pa_nil))))))
   (pss_cons (ps_forw PassesOwn.never rfl (pi_tup (pe_tup (pa_consI (pa_consI (pa_cons (pe_op op_add pe_int (pe_op op_mod (pe_op op_fdivP (pe_cal zka (hr.mono (by decide)) rfl pass0 (pa_cons (pv 0) (pa_consI pa_nil))) pe_int) pe_int)) pa_nil))))) (pg_name (i:=5) sc.nd rfl (Or.inl rfl))
   (pss_cons (ps_set (i:=6) sc.nd rfl (Or.inl rfl) (pe_op op_fdivP (pe_cal zka (hr.mono (by decide)) rfl pass0 (pa_cons (pv 0) (pa_consI pa_nil))) (pe_op op_add pe_int (pe_op op_mul pe_int (pv 5)))))
   (pss_one (ps_expr (pe_bm PySem.F.plainAttrs_list PySem.F.slot_list_insert PySem.F.type_list_insert mt_insert (pv 4) (pa_cons (pe_op op_mod (pv 6) (pe_op op_add (pe_callB call_lenL rfl nb.len bt_len (pa_cons (pv 4) pa_nil)) pe_int)) (pa_cons (pe_cal zMa (hr.mono (by decide)) rfl pass0 (pa_cons (pe_op op_add (pe_op op_mul (pe_op op_fdivP (pv 6) pe_int) pe_int) (pv 5)) (pa_cons (pv 1) (pa_cons (pv 2) pa_nil)))) pa_nil)))))))
   (pss_one (ps_ret (pv 4)))))),?_⟩
  refine seq_cut fun N1 h1=>?_
  walk_at "wp"
  refine ⟨a,ns,2,rfl,ha,by decide,fun c2=>⟨c2,rfl,h1 _ _ ?_⟩⟩
  clear h1
  obtain ⟨m,hm⟩:∃ m:Nat,c2 % 22=(m:Int):=⟨_,(Int.toNat_of_nonneg (Int.emod_nonneg _ (by omega))).symm⟩
  have m2:m < 22:=by have:=Int.emod_lt_of_pos c2 (b:=22) (by omega);omega
  rw [hm]
  refine seq_cut fun N1 h1=>?_
  walk_at "wp"
  refine ⟨by omega,by omega,?_⟩
  have en:((m:Int)).toNat=m:=by omega
  rw [en]
  refine comp_range (lo:=0) (n:=m) (fun i acc σ H'=>Same H H'∧(∃ ts rs,acc=ts.map V.ref∧RowsIn H' ts rs∧(∀ r∈rs,RowOf p sg r)∧rs.length=i)∧i≤m∧∃ x,σ=[x,some (V.ref a),some (V.ref b),some (V.str (tx sg))]) ⟨Same.refl _,⟨[],[],rfl,⟨rfl,fun i t r e=>by simp at e⟩,(fun r hr=>nomatch hr),rfl⟩,Nat.zero_le _,_,rfl⟩ ?_ ?_ ?_ ?_
  ·rintro i acc σ H' ⟨_,⟨ts,rs,rfl,h,_,hl⟩,hi,_⟩
   rw [List.length_map,h.1,hl];exact line_big (by omega)
  ·rintro i acc σ H' ⟨_,_,h,_⟩
   exact h
  ·rintro i acc σ H' hi ⟨sm,⟨ts,rs,rfl,hR,hro,hl⟩,_,y,rfl⟩
   walk_at "wp"
   refine ⟨a,ns,8 + i,by simp,sm.seq ha,by omega,fun cc=>?_⟩
   refine ⟨.inr ⟨by omega,by omega⟩,cc,rfl,?_⟩
   refine ⟨_,b,p,sg,rfl,sm _ _ hb,hp,hpn,hsg,fun t r H2 hr ht _ s2=>?_⟩
   refine ⟨sm.trans s2,⟨ts ++ [t],by rw [List.map_append];rfl,rs ++ [r],(hR.up s2).app ht,fun r' hr'=>?_,by rw [List.length_append,hl];rfl⟩,hi⟩
   rcases List.mem_append.mp hr' with h | h
   ·exact hro r' h
   ·rw [List.mem_singleton.mp h];exact hr
  ·rintro acc σ H' ⟨sm,⟨ts,rs,rfl,hR,hro,hl⟩,_,y,rfl⟩ l hl'
   refine h1 _ _ ?_
   clear h1
   have s1:Same H (upd H' l (.lst (ts.map V.ref))):=sm.trans (same_upd hl')
   have R1:RowsAt (upd H' l (.lst (ts.map V.ref))) l ts rs:=⟨upd_same,hR.up (same_upd hl')⟩
   have fr:H l=none:=sm.free hl'
   generalize upd H' l (.lst (ts.map V.ref))=H1 at s1 R1 ⊢
   refine seq_cut fun N1 h1=>?_
   walk_at "wp"
   refine ⟨a,ns,2,rfl,s1.seq ha,by decide,fun cc=>⟨cc,rfl,line_le (by decide),fun pt hpt=>?_⟩⟩
   obtain ⟨d,hd⟩:∃ d:Nat,cc / 22 % 2=(d:Int):=⟨_,(Int.toNat_of_nonneg (Int.emod_nonneg _ (by omega))).symm⟩
   have d2:d < 2:=by have:=Int.emod_lt_of_pos (cc / 22) (b:=2) (by omega);omega
   rw [hd]
   have s2:Same H (upd H1 pt (.tup [V.int 0,V.int 1,V.int (2 + (d:Int))])):=s1.trans (same_upd hpt)
   have R2:RowsAt (upd H1 pt (.tup [V.int 0,V.int 1,V.int (2 + (d:Int))])) l ts rs:=R1.up (same_upd hpt)
   have e2:upd H1 pt (.tup [V.int 0,V.int 1,V.int (2 + (d:Int))]) pt=some (.tup [V.int 0,V.int 1,V.int (2 + (d:Int))]):=upd_same
   have frt:H pt=none:=s1.free hpt
   generalize upd H1 pt (.tup [V.int 0,V.int 1,V.int (2 + (d:Int))])=H2 at s2 R2 e2 ⊢
   have hlp:l≠pt:=fun e=>by rw [← e,R1.1] at hpt;cases hpt
   refine ⟨⟨_,SqT.of e2⟩,?_⟩
   refine forw_tup (xs:=[V.int 0,V.int 1,V.int (2 + (d:Int))]) (fun i σ H'=>Same H H'∧H' pt=some (.tup [V.int 0,V.int 1,V.int (2 + (d:Int))])∧(∃ ts rs,RowsAt H' l ts rs∧(∀ r∈rs,RowOf p sg r)∧rs.length=m + i∧∀ c,c < i→∃ r∈rs,(partsK r.1 r.2).length=c)∧∃ x y,σ=[some (V.ref a),some (V.ref b),some (V.str (tx sg)),some (V.int m),some (V.ref l),x,y]) ⟨s2,e2,⟨ts,rs,R2,hro,hl,fun c h=>absurd h (Nat.not_lt_zero _)⟩,_,_,rfl⟩ ?_ ?_ ?_
   ·rintro i σ H' _ ⟨_,h,_⟩
    exact SqT.of h
   ·rintro i x σ H' hx ⟨sm',hpt',⟨ts,rs,R',hro',hl3,hk⟩,x1,x2,rfl⟩
    obtain ⟨kd,rfl,hkd,h0,h1',h2'⟩:∃ kd:Nat,x=V.int kd∧kd < 4∧(i=0→kd=0)∧(i=1→kd=1)∧(i≠0→i≠1→i=2∧2≤kd):=by
     match i,hx with
     | 0,hx=>cases hx;exact ⟨0,rfl,by decide,fun _=>rfl,fun h=>absurd h (by decide),fun h=>absurd rfl h⟩
     | 1,hx=>cases hx;exact ⟨1,rfl,by decide,fun h=>absurd h (by decide),fun _=>rfl,fun _ h=>absurd rfl h⟩
     | 2,hx=>cases hx;exact ⟨2 + d,by simp,by omega,fun h=>absurd h (by decide),fun h=>absurd h (by decide),fun _ _=>⟨rfl,by omega⟩⟩
     | j + 3,hx=>simp at hx
    walk_at "wp"
    refine ⟨a,ns,3,rfl,sm'.seq ha,by decide,fun c3=>⟨c3,rfl,by omega,by omega,.inl ⟨rfl,_,SqL.of R'.1⟩,_,SqL.of R'.1,by omega,?_⟩⟩
    have hts:(ts.map V.ref).length=m + i:=by rw [List.length_map,R'.2.1,hl3]
    have hi3:i < 3:=by have:=(List.getElem?_eq_some_iff.mp hx).1;simpa using this
    rw [hts]
    generalize c3 / (1 + 5 * (kd:Int))=rest
    obtain ⟨at',hat⟩:∃ j:Nat,rest % (((m + i:Nat):Int) + 1)=(j:Int):=⟨_,(Int.toNat_of_nonneg (Int.emod_nonneg _ (by omega))).symm⟩
    have hat2:at' < m + i + 1:=by have:=Int.emod_lt_of_pos rest (b:=((m + i:Nat):Int) + 1) (by omega);omega
    refine ⟨_,b,p,sg,rfl,sm' _ _ hb,hp,hpn,hsg,fun t r H3 hr ht hkind s3=>?_⟩
    have R3:=R'.up s3
    have e4:(rest / 30 * 4 + (kd:Int)) % 4=(kd:Int):=by omega
    rw [e4] at hkind
    have hpar:(partsK r.1 r.2).length=i:=by
     by_cases c0:i=0
     ·rw [hkind.1 (by rw [h0 c0];rfl),c0];rfl
     ·by_cases c1:i=1
      ·rw [hkind.2.1 (by rw [h1' c1];rfl),c1];rfl
      ·obtain ⟨c2,c3⟩:=h2' c0 c1
       rcases hkind.2.2 (by omega) (by omega) with e | e
       ·rw [e,c2];rfl
       ·rw [e,c2];rfl
    refine ⟨_,R3.1,at',hat,by rw [hts];omega,by rw [hts];exact line_big (by omega),same_upd2 (sm'.trans s3) fr,by rw [upd_ne (Ne.symm hlp)];exact s3 _ _ hpt',_,_,R3.ins ht (by rw [R'.2.1,hl3];omega),fun r' hr'=>?_,by rw [len_ins (by rw [hl3];omega),hl3];omega,fun cc hcc=>?_⟩
    ·rcases ins_get (by rw [hl3];omega) hr' with h | h
     ·exact hro' r' h
     ·rw [h];exact hr
    ·by_cases hlt:cc < i
     ·obtain ⟨r',hr',e⟩:=hk cc hlt
      exact ⟨r',mem_ins (.inl hr'),e⟩
     ·have:cc=i:=by omega
      subst this
      exact ⟨r,mem_ins (.inr rfl),hpar⟩
   ·rintro σ H' ⟨sm',_,⟨ts,rs,R',hro',hl3,hk⟩,x1,x2,rfl⟩
    refine h1 _ _ ?_
    walk_at "wp"
    exact q l ts rs H' R' hro' (by rw [hl3];simp;omega) hk fr sm'
def numsV (ns:List Nat):List V:=ns.map fun (n:Nat)=>V.int (n:Int)
theorem numsV_len (ns:List Nat):(numsV ns).length=ns.length:=by unfold numsV;rw [List.length_map]
theorem numsV_get {ns:List Nat} {i n:Nat} (h:ns[i]?=some n):(numsV ns)[i]?=some (V.int (n:Int)):=by unfold numsV;rw [List.getElem?_map,h];rfl
theorem RowsAt.got {H:Hp} {l:Addr} {ts:List Addr} {rs:List (Nat × RV)} (h:RowsAt H l ts rs) {n:Nat} (hn:n < rs.length):∃ t r,ts[n]?=some t∧rs[n]?=some r∧H t=some (.tup (rowV r)):=by
 have h1:n < ts.length:=by rw [h.2.1];exact hn
 exact ⟨ts[n],rs[n],List.getElem?_eq_getElem h1,List.getElem?_eq_getElem hn,h.2.2 n _ _ (List.getElem?_eq_getElem h1) (List.getElem?_eq_getElem hn)⟩
abbrev s_l_numbers_of:Stmt:=top 58
def sp_l_numbers_of:Sp:=fun vs H Q _=>∃ (l:Addr) (ts:List Addr) (rs:List (Nat × RV)) (c:Nat),vs=[.ref l,.int (c:Int)]∧RowsAt H l ts rs∧(∀ r∈rs,r.1 < 4)∧rs.length≤100 ∧
 ∀ l2 (ns:List Nat) H',H' l2=some (.lst (numsV ns))→(∀ n∈ns,n < rs.length)→((∃ r∈rs,(partsK r.1 r.2).length=c)→ns≠[])→Same H H'→Q (.ref l2) H'
theorem sc_l_numbers_of:FnScope ["_law_rules_here","_law_count"] ["_law_rules_here","_law_count"] (defScope s_l_numbers_of):=⟨rfl,rfl,rfl,by decide +kernel,rfl,by decide +kernel,by decide +kernel⟩
theorem ok_l_numbers_of {f:Addr} {fd:FuncData} (F:Fun K "_law_numbers_of" "_law_numbers_of" s_l_numbers_of f fd) (nb:NB mg) (zqa:Cal P w K mg base CX0 1 "_law_parts" ["_law_told_here"] sp_l_parts):FnOk P w K mg base CX0 2 f fd ["_law_rules_here","_law_count"] sp_l_numbers_of:=by
 have sc:=sc_l_numbers_of
 refine F.ok sc (fun vs H Q E h=>?_) (fun cdv A outer s H vs Q E hr h=>?_)
 ·obtain ⟨l,ts,rs,c,rfl,_⟩:=h;rfl
 ·obtain ⟨l,ts,rs,c,rfl,hR,hk4,hn,q⟩:=h
  refine ⟨_,(pss_one (ps_ret (pe_comp ["_law_k","_law_told_here"] [1] rfl (CompOk.of (by kernel_rfl)) (by kernel_rfl) (pi_enum rfl nb.enumerate (pa_cons (pv 0) pa_nil))
    (fun _ _ _ _=>(pg_tupK (K:=K) (n:=2) rfl rfl (pgs_cons (pg_name (i:=0) (by show (["_law_k","_law_told_here","_law_count"]:List Str).Nodup;decide +kernel) rfl (Or.inl rfl)) (pgs_cons (pg_name (i:=1) (by show (["_law_k","_law_told_here","_law_count"]:List Str).Nodup;decide +kernel) rfl (Or.inl rfl)) pgs_nil)))) (fun _ _ _ _=>(pif_one (pt_cmpR op_eq (pe_callB (call_lenLK (K:=K) rfl) rfl nb.len bt_len (pa_cons (pe_cal zqa (hr.mono (by decide)) rfl pass0 (pa_cons (pv 1) pa_nil)) pa_nil)) (pv 2) (nomark _)))) (fun _ _ _ _=>(pv 0))))),?_⟩
  walk_at "wp"
  refine ⟨_,SqL.of hR.1,?_⟩
  refine comp_enumF (as:=ts) (emb:=V.ref) (f:=fun i _=>if npar rs i=c then some (V.int (i:Int)) else none) (fun σ=>∃ x y,σ=[x,y,some (V.int c)]) ⟨_,_,rfl⟩ (fun H' sm=>SqL.of (sm _ _ hR.1)) (by rw [hR.2.1];omega) ?_ ?_
  ·rintro i t ht σ H' T N1 N0 ⟨x,y,rfl⟩ sm hT k1 k0
   have s1:Same H (upd H' T (.tup [.int (i:Int),.ref t])):=sm.trans (same_upd hT)
   have e1:upd H' T (.tup [.int (i:Int),.ref t]) T=some (.tup [.int (i:Int),.ref t]):=upd_same
   generalize upd H' T (.tup [.int (i:Int),.ref t])=H1 at s1 e1 ⊢
   have hlt:i < rs.length:=by rw [← hR.2.1];exact (List.getElem?_eq_some_iff.mp ht).1
   obtain ⟨t',r,e2,e3,e4⟩:=hR.got hlt
   rw [ht] at e2;cases e2
   walk_at "wp"
   refine ⟨_,SqT.of e1,rfl,_,_,rfl,_,_,rfl,rfl,?_⟩
   refine ⟨t,r,rfl,s1 _ _ e4,hk4 r (List.mem_of_getElem? e3),fun l2 H2 hl2 hp2 s2=>?_⟩
   have hp2:H2 l2=some (.lst (rowsV (partsK r.1 r.2))):=hp2
   refine ⟨l2,rfl,_,SqL.of hp2,?_⟩
   rw [rowsV_length,← npar_get e3]
   by_cases h:npar rs i=c
   ·rw [if_pos (by rw [h])]
    exact k1 _ _ _ (if_pos h) (s1.trans s2) ⟨_,_,rfl⟩
   ·rw [if_neg (by omega)]
    exact k0 _ _ (if_neg h) (s1.trans s2) ⟨_,_,rfl⟩
  ·intro H' sm l2 hl2
   have e0:ts.zipIdx.filterMap (fun x=>if npar rs x.2=c then some (V.int (x.2:Int)) else none)=numsV (ts.zipIdx.filterMap fun x=>if npar rs x.2=c then some x.2 else none):=by
    unfold numsV
    rw [List.map_filterMap]
    congr 1
    funext x
    by_cases h:npar rs x.2=c
    ·rw [if_pos h,if_pos h];rfl
    ·rw [if_neg h,if_neg h];rfl
   rw [e0]
   refine q l2 _ _ upd_same (fun n hn'=>?_) (fun ⟨r,hr',e⟩=>?_) (sm.trans (same_upd hl2))
   ·obtain ⟨x,hx,e⟩:=List.mem_filterMap.mp hn'
    have:=List.mem_zipIdx hx
    by_cases h:npar rs x.2=c
    ·rw [if_pos h] at e;cases e;rw [← hR.2.1];omega
    ·rw [if_neg h] at e;cases e
   ·obtain ⟨i,hi⟩:=List.mem_iff_getElem?.mp hr'
    have hlt:i < ts.length:=by rw [hR.2.1];exact (List.getElem?_eq_some_iff.mp hi).1
    refine List.ne_nil_of_mem (a:=i) (List.mem_filterMap.mpr ⟨(ts[i],i),?_,?_⟩)
    ·exact List.mem_iff_getElem?.mpr ⟨i,by rw [List.getElem?_zipIdx,List.getElem?_eq_getElem hlt];simp⟩
    ·show (if npar rs i=c then some i else none)=some i
     rw [npar_get hi,if_pos e]
theorem numsV_app (xs ys:List Nat):numsV (xs ++ ys)=numsV xs ++ numsV ys:=by unfold numsV;rw [List.map_append]
theorem numsV_rep (n k:Nat):(List.replicate k ([V.int (n:Int)]:List V)).flatten=numsV (List.replicate k n):=by
 unfold numsV
 rw [List.map_replicate]
 induction k with
 | zero=>rfl
 | succ k ih=>rw [List.replicate_succ,List.flatten_cons,ih,List.replicate_succ];rfl
theorem atI_m1 {α:Type} {xs:List α} {k:Nat} {v:α} (h:xs.length=k + 1) (e:xs[k]?=some v):atI xs (-1)=some v:=by
 unfold atI ixN
 rw [if_neg (by decide),if_pos (by rw [h];omega),Option.bind_some,h,show (-1 + ((k + 1:Nat):Int)).toNat=k by omega]
 exact e
abbrev s_l_full:Stmt:=top 59
def sp_l_full:Sp:=fun vs H Q _=>∃ (l:Addr) (lv a b c m:Nat),vs=[.int (lv:Int),.ref l]∧1≤lv∧lv≤8∧H l=some (.lst (numsV [a,b,c]))∧a < m∧b < m∧c < m ∧
 ∀ l2 (ns:List Nat) H',H' l2=some (.lst (numsV ns))→(∀ n∈ns,n < m)→ns.length≤300→Same H H'→Q (.ref l2) H'
theorem sc_l_full:FnScope ["_law_levels","_law_numbers","_law_words","_law_level"] ["_law_levels","_law_numbers"] (defScope s_l_full):=⟨rfl,rfl,rfl,by decide +kernel,rfl,by decide +kernel,by decide +kernel⟩
theorem ok_l_full {f:Addr} {fd:FuncData} (F:Fun K "_law_full" "_law_full" s_l_full f fd) (nb:NB mg):FnOk P w K mg base CX0 1 f fd ["_law_levels","_law_numbers"] sp_l_full:=by
 have sc:=sc_l_full
 refine F.ok sc (fun vs H Q E h=>?_) (fun cdv A outer s H vs Q E hr h=>?_)
 ·obtain ⟨l,lv,a,b,c,m,rfl,_⟩:=h;rfl
 ·obtain ⟨l,lv,a,b,c,m,rfl,hl1,hl8,hl,ha,hb,hc,q⟩:=h
  refine ⟨_,(pss_cons (ps_set (i:=2) sc.nd rfl (Or.inl rfl) (pe_lst (pa_cons (pe_ix ix_list (pv 1) pe_int (fun _ _=>rfl)) pa_nil)))
   (pss_cons (ps_forw PassesOwn.never rfl (pi_range1 rfl nb.range (pa_cons (pe_op op_sub (pv 0) pe_int) pa_nil)) (pg_name (i:=3) sc.nd rfl (Or.inl rfl))
   (pss_one (ps_set (i:=2) sc.nd rfl (Or.inl rfl) (pe_op op_cat (pe_op op_cat (pe_lst (pa_cons (pe_ix ix_list (pv 1) pe_int (fun _ _=>rfl)) pa_nil)) (pv 2)) (pv 2)))))
   (pss_one (ps_ret (pv 2))))),?_⟩
  refine seq_cut fun N1 h1=>?_
  walk_at "wp"
  refine ⟨_,SqL.of hl,_,rfl,line_le (by decide),fun w0 hw0=>h1 _ _ ?_⟩
  clear h1
  have s1:Same H (upd H w0 (.lst [V.int (a:Int)])):=same_upd hw0
  have e1:upd H w0 (.lst [V.int (a:Int)]) w0=some (.lst (numsV [a])):=upd_same
  generalize upd H w0 (.lst [V.int (a:Int)])=H1 at s1 e1 ⊢
  refine seq_cut fun N1 h1=>?_
  walk_at "wp"
  refine ⟨by omega,by omega,?_⟩
  have en:((lv:Int) - 1).toNat=lv - 1:=by omega
  rw [en]
  refine forw_range (lo:=0) (n:=lv - 1) (fun i σ H'=>Same H H'∧(∃ (w1:Addr) (ns:List Nat) (x:Option V),H' w1=some (.lst (numsV ns))∧(∀ n∈ns,n < m)∧ns.length + 1=2 ^ (i + 1)∧σ=[some (V.int lv),some (V.ref l),some (V.ref w1),x])∧i≤7) ⟨s1,⟨w0,[a],none,e1,(fun n hn=>by rw [List.mem_singleton.mp hn];exact ha),rfl,rfl⟩,by omega⟩ ?_ ?_
  ·rintro i σ H' hi ⟨sm,⟨w1,ns,x,hw,hns,hlen,rfl⟩,_⟩
   have hpow:2 ^ (i + 1)≤2 ^ 7:=Nat.pow_le_pow_right (by decide) (by omega)
   have hp2:2 ^ (i + 1 + 1)=2 * 2 ^ (i + 1):=by rw [Nat.pow_succ];omega
   walk_at "wp"
   refine ⟨_,SqL.of (sm _ _ hl),V.int (c:Int),rfl,line_le (by decide),fun p1 hp1=>⟨_,upd_same,_,same_upd hp1 _ _ hw,?_,fun p2 hp2=>⟨_,upd_same,_,same_upd hp2 _ _ (same_upd hp1 _ _ hw),?_,fun p3 hp3=>⟨((sm.trans (same_upd hp1)).trans (same_upd hp2)).trans (same_upd hp3),⟨p3,[c] ++ ns ++ ns,?_,?_,?_,rfl⟩,by omega⟩⟩⟩⟩
   ·rw [numsV_len];exact line_le (by simp;omega)
   ·rw [List.length_append,numsV_len];exact line_le (by simp;omega)
   ·rw [upd_same,numsV_app,numsV_app];rfl
   ·intro n hn
    rcases List.mem_append.mp hn with h | h
    ·rcases List.mem_append.mp h with h | h
     ·rw [List.mem_singleton.mp h];exact hc
     ·exact hns n h
    ·exact hns n h
   ·simp;omega
  ·rintro σ H' ⟨sm,⟨w1,ns,x,hw,hns,hlen,rfl⟩,_⟩
   have hpow:2 ^ (lv - 1 + 1)≤2 ^ 8:=Nat.pow_le_pow_right (by decide) (by omega)
   refine h1 _ _ ?_
   walk_at "wp"
   exact q w1 ns H' hw hns (by omega) sm
abbrev s_l_base:Stmt:=top 60
def sp_l_base (K:W.Frag):Sp:=fun vs H Q _=>∃ (a l:Addr) (is:List Int) (ts:List Addr) (rs:List (Nat × RV)) (c:Int),vs=[.ref a,.ref l,.int c]∧SqL K H a (is.map V.int)∧RowsAt H l ts rs∧(∀ r∈rs,r.1 < 4)∧rs.length≤100∧allK rs ∧
 ∀ l2 (ns:List Nat) H',H' l2=some (.lst (numsV ns))→(∀ n∈ns,n < rs.length)→ns.length≤300→Same H H'→Q (.ref l2) H'
theorem sc_l_base:FnScope ["_law_script","_law_rules_here","_law_cell_here","_law_numbers","_law_many"] ["_law_script","_law_rules_here","_law_cell_here"] (defScope s_l_base):=⟨rfl,rfl,rfl,by decide +kernel,rfl,by decide +kernel,by decide +kernel⟩
theorem ok_l_base {f:Addr} {fd:FuncData} (F:Fun K "_law_base" "_law_base" s_l_base f fd) (nb:NB mg) (zka:Cal P w K mg base CX0 1 "_law_cell" ["_law_script","_law_k"] (sp_l_cell K)) (zya:Cal P w K mg base CX0 2 "_law_numbers_of" ["_law_rules_here","_law_count"] sp_l_numbers_of) (zDd:Cal P w K mg base CX0 1 "_law_full" ["_law_levels","_law_numbers"] sp_l_full):FnOk P w K mg base CX0 3 f fd ["_law_script","_law_rules_here","_law_cell_here"] (sp_l_base K):=by
 have sc:=sc_l_base
 refine F.ok sc (fun vs H Q E h=>?_) (fun cdv A outer s H vs Q E hr h=>?_)
 ·obtain ⟨a,l,is,ts,rs,c,rfl,_⟩:=h;rfl
 ·obtain ⟨a,l,is,ts,rs,c,rfl,ha,hR,hk4,hn,hall,q⟩:=h
  refine ⟨_,(pss_cons (ps_setcomp (i:=3) ["_law_count"] [1] sc.nd rfl (Or.inl rfl) rfl  rfl (CompOk.of (by kernel_rfl)) (by kernel_rfl) (pi_range1 rfl nb.range (pa_consI pa_nil))
    (fun _ _ _ _=>(pg_name (i:=0) (by show (["_law_count","_law_rules_here"]:List Str).Nodup;decide +kernel) rfl (Or.inl rfl))) (fun _ _ _ _=>pif_nil) (fun _ _ _ _=>(pe_ix (ix_listK (K:=K) rfl) (pe_cal zya (hr.mono (by decide)) rfl pass0 (pa_cons (pv 1) (pa_cons (pv 0) pa_nil))) pe_int (fun _ _=>rfl))))
   (pss_cons (ps_if (pt_cmpR op_eq (pe_op op_mod (pv 2) pe_int) pe_int (nomark _))
   (pss_one (ps_ret (pe_op op_rep (pe_lst (pa_cons (pe_ix ix_list (pv 3) pe_int (fun _ _=>rfl)) pa_nil)) (pe_op op_add pe_int (pe_op op_mod (pe_op op_fdivP (pv 2) pe_int) pe_int)))))
   pss_nil)
   (pss_cons (ps_if (pt_cmpR op_eq (pe_op op_mod (pv 2) pe_int) pe_int (nomark _))
   (pss_one (ps_ret (pe_cal zDd (hr.mono (by decide)) rfl pass0 (pa_cons (pe_op op_add pe_int (pe_op op_mod (pe_op op_fdivP (pv 2) pe_int) pe_int)) (pa_cons (pv 3) pa_nil)))))
   pss_nil)
   (pss_cons (ps_set (i:=4) sc.nd rfl (Or.inl rfl) (pe_op op_mod (pe_op op_fdivP (pv 2) pe_int) pe_int))
   (pss_one (ps_ret (pe_comp ["_law_k"] [0,1] rfl (CompOk.of (by kernel_rfl)) (by kernel_rfl) (pi_range1 rfl nb.range (pa_cons (pv 4) pa_nil))
    (fun _ _ _ _=>(pg_name (i:=0) (by show (["_law_k","_law_script","_law_rules_here"]:List Str).Nodup;decide +kernel) rfl (Or.inl rfl))) (fun _ _ _ _=>pif_nil) (fun _ _ _ _=>(pe_op op_mod (pe_op op_add (pe_op op_fdivP (pe_cal zka (hr.mono (by decide)) rfl pass0 (pa_cons (pv 1) (pa_cons (pe_op op_add pe_int (pv 0)) pa_nil))) pe_int) (pv 0)) (pe_callB (call_lenLK (K:=K) rfl) rfl nb.len bt_len (pa_cons (pv 2) pa_nil))))))))))),?_⟩
  refine seq_cut fun N1 h1=>?_
  walk_at "wp"
  refine ⟨by decide,?_⟩
  refine comp_range (lo:=0) (n:=3) (fun i acc σ H'=>Same H H'∧(∃ ns:List Nat,acc=numsV ns∧(∀ n∈ns,n < rs.length)∧ns.length=i)∧i≤3∧∃ x,σ=[x,some (V.ref l)]) ⟨Same.refl _,⟨[],rfl,(fun n hn=>nomatch hn),rfl⟩,Nat.zero_le _,_,rfl⟩ ?_ ?_ ?_ ?_
  ·rintro i acc σ H' ⟨_,⟨ns,rfl,_,hl⟩,hi,_⟩
   rw [numsV_len,hl];exact line_big (by omega)
  ·rintro i acc σ H' ⟨_,_,h,_⟩
   exact h
  ·rintro i acc σ H' hi ⟨sm,⟨ns,rfl,hns,hl⟩,_,y,rfl⟩
   walk_at "wp"
   refine ⟨l,ts,rs,i,rfl,hR.up sm,hk4,hn,fun l2 ms H2 h2 hms hne s2=>?_⟩
   have hne:=hne (hall i hi)
   obtain ⟨n,ms',rfl⟩:∃ n ms',ms=n :: ms':=by
    cases ms with
    | nil=>exact absurd rfl hne
    | cons n ms'=>exact ⟨n,ms',rfl⟩
   refine ⟨l2,rfl,_,SqL.of h2,V.int (n:Int),(show atI _ ((0:Nat):Int)=_ from atI_nat rfl),sm.trans s2,⟨ns ++ [n],by rw [numsV_app];rfl,fun m hm=>?_,by rw [List.length_append,hl];rfl⟩,hi⟩
   rcases List.mem_append.mp hm with h | h
   ·exact hns m h
   ·rw [List.mem_singleton.mp h];exact hms n List.mem_cons_self
  ·rintro acc σ H' ⟨sm,⟨ns,rfl,hns,hl⟩,_,y,rfl⟩ l2 hl2
   refine h1 _ _ ?_
   clear h1
   obtain ⟨n0,n1,n2,rfl⟩:∃ a b c,ns=[a,b,c]:=by
    match ns,hl with
    | [a,b,c],_=>exact ⟨a,b,c,rfl⟩
   have s1:Same H (upd H' l2 (.lst (numsV [n0,n1,n2]))):=sm.trans (same_upd hl2)
   have e1:upd H' l2 (.lst (numsV [n0,n1,n2])) l2=some (.lst (numsV [n0,n1,n2])):=upd_same
   generalize upd H' l2 (.lst (numsV [n0,n1,n2]))=H1 at s1 e1 ⊢
   have q0:n0 < rs.length:=hns n0 (by simp)
   have q1:n1 < rs.length:=hns n1 (by simp)
   have q2:n2 < rs.length:=hns n2 (by simp)
   walk_at "wp"
   by_cases c1:c % 4=1
   ·rw [if_pos c1]
    have hb1:=Int.emod_nonneg (c / 4) (b:=21) (by omega)
    have hb2:=Int.emod_lt_of_pos (c / 4) (b:=21) (by omega)
    refine ⟨_,SqL.of e1,V.int (n1:Int),rfl,line_le (by decide),fun p1 hp1=>⟨_,upd_same,by omega,by omega,line_le (by simp;omega),fun p2 hp2=>?_⟩⟩
    refine q p2 (List.replicate (50 + c / 4 % 21).toNat n1) _ (by rw [upd_same,numsV_rep]) (fun m hm=>?_) (by rw [List.length_replicate];omega) ((s1.trans (same_upd hp1)).trans (same_upd hp2))
    rw [(List.mem_replicate.mp hm).2];exact q1
   ·rw [if_neg c1]
    by_cases c2:c % 4=2
    ·rw [if_pos c2]
     obtain ⟨d,hd⟩:∃ d:Nat,c / 4 % 2=(d:Int):=⟨_,(Int.toNat_of_nonneg (Int.emod_nonneg _ (by omega))).symm⟩
     have d2:d < 2:=by have:=Int.emod_lt_of_pos (c / 4) (b:=2) (by omega);omega
     rw [hd]
     exact ⟨l2,7 + d,n0,n1,n2,rs.length,by simp,by omega,by omega,e1,q0,q1,q2,fun l3 ms H3 h3 hms hl3 s3=>q l3 ms H3 h3 hms hl3 (s1.trans s3)⟩
    ·rw [if_neg c2]
     obtain ⟨d,hd⟩:∃ d:Nat,c / 4 % 45=(d:Int):=⟨_,(Int.toNat_of_nonneg (Int.emod_nonneg _ (by omega))).symm⟩
     have d2:d < 45:=by have:=Int.emod_lt_of_pos (c / 4) (b:=45) (by omega);omega
     rw [hd]
     have en:((d:Int)).toNat=d:=by omega
     rw [en]
     refine ⟨by omega,by omega,?_⟩
     refine comp_range (lo:=0) (n:=d) (fun i acc σ H'=>Same H H'∧(∃ ns:List Nat,acc=numsV ns∧(∀ n∈ns,n < rs.length)∧ns.length=i)∧i≤d∧∃ x,σ=[x,some (V.ref a),some (V.ref l)]) ⟨s1,⟨[],rfl,(fun n hn=>nomatch hn),rfl⟩,Nat.zero_le _,_,rfl⟩ ?_ ?_ ?_ ?_
     ·rintro i acc σ H' ⟨_,⟨ns,rfl,_,hl⟩,hi,_⟩
      rw [numsV_len,hl];exact line_big (by omega)
     ·rintro i acc σ H' ⟨_,_,h,_⟩
      exact h
     ·rintro i acc σ H' hi ⟨sm',⟨ns,rfl,hns',hl'⟩,_,y,rfl⟩
      walk_at "wp"
      refine ⟨a,is,8 + i,by simp,sm'.seq ha,by omega,fun cc=>⟨cc,rfl,_,SqL.of ((hR.up sm').1),?_⟩⟩
      have hts:((ts.map V.ref).length:Int)=(rs.length:Int):=by rw [List.length_map,hR.2.1]
      rw [hts]
      have hpos:0 < rs.length:=by omega
      obtain ⟨e,he⟩:∃ e:Nat,(cc / 3 + (i:Int)) % (rs.length:Int)=(e:Int):=⟨_,(Int.toNat_of_nonneg (Int.emod_nonneg _ (by omega))).symm⟩
      have e2:e < rs.length:=by have:=Int.emod_lt_of_pos (cc / 3 + (i:Int)) (b:=(rs.length:Int)) (by omega);omega
      rw [he]
      refine ⟨by omega,sm',⟨ns ++ [e],by rw [numsV_app];rfl,fun m hm=>?_,by rw [List.length_append,hl'];rfl⟩,hi⟩
      rcases List.mem_append.mp hm with h | h
      ·exact hns' m h
      ·rw [List.mem_singleton.mp h];exact e2
     ·rintro acc σ H' ⟨sm',⟨ns,rfl,hns',hl'⟩,_,y,rfl⟩ l3 hl3
      exact q l3 ns _ upd_same hns' (by omega) (sm'.trans (same_upd hl3))
abbrev s_l_made_whole:Stmt:=top 61
def sp_l_made_whole:Sp:=fun vs H Q _=>∃ (l lw:Addr) (ts:List Addr) (rs:List (Nat × RV)) (ns:List Nat),vs=[.ref l,.ref lw]∧RowsAt H l ts rs∧(∀ r∈rs,r.1 < 4)∧rs.length≤100∧allK rs∧H lw=some (.lst (numsV ns))∧(∀ n∈ns,n < rs.length)∧ns.length≤300 ∧
 ∀ l2 (ms:List Nat) H',H' l2=some (.lst (numsV ms))→(∀ n∈ms,n < rs.length)→ms.length≤700→Same H H'→Q (.ref l2) H'
theorem sc_l_made_whole:FnScope ["_law_rules_here","_law_words","_law_wanted","_law_number"] ["_law_rules_here","_law_words"] (defScope s_l_made_whole):=⟨rfl,rfl,rfl,by decide +kernel,rfl,by decide +kernel,by decide +kernel⟩
theorem ok_l_made_whole {f:Addr} {fd:FuncData} (F:Fun K "_law_made_whole" "_law_made_whole" s_l_made_whole f fd) (nb:NB mg) (zqa:Cal P w K mg base CX0 1 "_law_parts" ["_law_told_here"] sp_l_parts) (zya:Cal P w K mg base CX0 2 "_law_numbers_of" ["_law_rules_here","_law_count"] sp_l_numbers_of):FnOk P w K mg base CX0 3 f fd ["_law_rules_here","_law_words"] sp_l_made_whole:=by
 have sc:=sc_l_made_whole
 refine F.ok sc (fun vs H Q E h=>?_) (fun cdv A outer s H vs Q E hr h=>?_)
 ·obtain ⟨l,lw,ts,rs,ns,rfl,_⟩:=h;rfl
 ·obtain ⟨l,lw,ts,rs,ns,rfl,hR,hk4,hn,hall,hw,hns,hnl,q⟩:=h
  refine ⟨_,(pss_cons (ps_set (i:=2) sc.nd rfl (Or.inl rfl) pe_int)
   (pss_cons (ps_forw PassesOwn.never rfl (pi_list (pv 1)) (pg_name (i:=3) sc.nd rfl (Or.inl rfl))
   (pss_one (ps_set (i:=2) sc.nd rfl (Or.inl rfl) (pe_op op_sub (pe_op op_add (pv 2) (pe_callB call_lenL rfl nb.len bt_len (pa_cons (pe_cal zqa (hr.mono (by decide)) rfl pass0 (pa_cons (pe_ix ix_list (pv 0) (pv 3) (fun _ _=>rfl)) pa_nil)) pa_nil))) pe_int))))
   (pss_one (ps_ret (pe_op op_cat (pv 1) (pe_op op_rep (pe_lst (pa_cons (pe_ix ix_list (pe_cal zya (hr.mono (by decide)) rfl pass0 (pa_cons (pv 0) (pa_consI pa_nil))) (pe_un un_neg pe_int) (fun _ _=>rfl)) pa_nil)) (pe_callB (call_max2 rfl) rfl nb.max bt_max (pa_consI (pa_cons (pv 2) pa_nil))))))))),?_⟩
  refine seq_cut fun N1 h1=>?_
  walk_at "wp"
  refine h1 _ _ ?_
  clear h1
  refine seq_cut fun N1 h1=>?_
  walk_at "wp"
  refine ⟨⟨_,SqL.of hw⟩,?_⟩
  refine forw_list (xs:=numsV ns) (fun i σ H'=>Same H H'∧∃ (z:Int) (x:Option V),-(i:Int)≤z∧z≤1 + (i:Int)∧σ=[some (V.ref l),some (V.ref lw),some (V.int z),x]) ⟨Same.refl _,_,_,by omega,by omega,rfl⟩ ?_ ?_ ?_
  ·rintro i σ H' _ ⟨sm,_⟩
   exact SqL.of (sm _ _ hw)
  ·rintro i x σ H' hx ⟨sm,z,y,hz1,hz2,rfl⟩
   have hlt:i < ns.length:=by have:=(List.getElem?_eq_some_iff.mp hx).1;rwa [numsV_len] at this
   rw [numsV_get (List.getElem?_eq_getElem hlt)] at hx
   cases hx
   obtain ⟨t,r,e2,e3,e4⟩:=hR.got (hns _ (List.getElem_mem hlt))
   walk_at "wp"
   refine ⟨_,SqL.of ((hR.up sm).1),V.ref t,atI_nat (by rw [List.getElem?_map,e2];rfl),t,r,rfl,sm _ _ e4,hk4 r (List.mem_of_getElem? e3),fun l2 H2 hl2 hp2 s2=>?_⟩
   have hp2:H2 l2=some (.lst (rowsV (partsK r.1 r.2))):=hp2
   have hfew:=partsK_few r.1 r.2
   refine ⟨l2,rfl,_,SqL.of hp2,sm.trans s2,_,?_,?_,rfl⟩
   ·rw [rowsV_length];omega
   ·rw [rowsV_length];omega
  ·rintro σ H' ⟨sm,z,y,hz1,hz2,rfl⟩
   rw [numsV_len] at hz1 hz2
   refine h1 _ _ ?_
   walk_at "wp"
   refine ⟨l,ts,rs,0,rfl,hR.up sm,hk4,hn,fun l2 ms H2 h2 hms hne s2=>?_⟩
   have hne:=hne (hall 0 (by decide))
   have hpos:0 < ms.length:=List.length_pos_iff.mpr hne
   have hlast:ms[ms.length - 1]?=some (ms[ms.length - 1]'(by omega)):=List.getElem?_eq_getElem (by omega)
   have hmz:ms[ms.length - 1]'(by omega) < rs.length:=hms _ (List.getElem_mem _)
   generalize ms[ms.length - 1]'(by omega)=n at hlast hmz
   obtain ⟨k,hk⟩:∃ k:Nat,(if z > 0 then z else 0)=(k:Int)∧k≤1 + ns.length:=by
    by_cases h:z > 0
    ·rw [if_pos h];exact ⟨z.toNat,by omega,by omega⟩
    ·rw [if_neg h];exact ⟨0,rfl,by omega⟩
   rw [hk.1]
   have en:((k:Int)).toNat=k:=by omega
   rw [en]
   refine ⟨l2,rfl,_,SqL.of h2,V.int (n:Int),atI_m1 (k:=ms.length - 1) (by rw [numsV_len];omega) (numsV_get hlast),line_le (by decide),fun p1 hp1=>⟨_,upd_same,by omega,by omega,line_le (by simp;omega),fun p2 hp2=>⟨_,same_upd hp2 _ _ (same_upd hp1 _ _ (s2 _ _ (sm _ _ hw))),_,upd_same,?_,fun p3 hp3=>?_⟩⟩⟩
   ·rw [numsV_rep,numsV_len,numsV_len,List.length_replicate];exact line_le (by omega)
   ·refine q p3 (ns ++ List.replicate k n) _ (by rw [upd_same,numsV_rep,numsV_app]) (fun m hm=>?_) (by rw [List.length_append,List.length_replicate];omega) ((((sm.trans s2).trans (same_upd hp1)).trans (same_upd hp2)).trans (same_upd hp3))
    rcases List.mem_append.mp hm with h | h
    ·exact hns m h
    ·rw [(List.mem_replicate.mp h).2];exact hmz
def numT (n:Nat):Str:=Str.ofString (toString (n:Int))
theorem numT_len:∀ n,n < 100→(numT n).length≤3:=by decide +kernel
theorem cutT_to {xs:List V} {k:Nat} (h:k≤xs.length):cutV xs none (some (k:Int))=xs.take k:=by
 unfold cutV
 rw [HT.sIx_nat,show HT.sIx xs.length 0 none=0 from rfl,List.drop_zero,Nat.sub_zero,Nat.min_eq_left h]
theorem cutT_from {xs:List V} {k:Nat} (h:k≤xs.length):cutV xs (some (k:Int)) none=xs.drop k:=by
 unfold cutV
 rw [HT.sIx_nat,show HT.sIx xs.length xs.length none=xs.length from rfl,Nat.min_eq_left h,List.take_of_length_le (by rw [List.length_drop];exact Nat.le_refl _)]
theorem cutT_from1 {ys:List Str} {k:Nat}:cutV (ys.map V.str) (some ((k:Int) + 1)) none=(ys.drop (k + 1)).map V.str:=by
 unfold cutV
 rw [show ((k:Int) + 1)=((k + 1:Nat):Int) by omega,HT.sIx_nat,show HT.sIx (ys.map V.str).length (ys.map V.str).length none=(ys.map V.str).length from rfl,List.map_drop]
 by_cases h:k + 1≤(ys.map V.str).length
 ·rw [Nat.min_eq_left h,List.take_of_length_le (by rw [List.length_drop];exact Nat.le_refl _)]
 ·rw [Nat.min_eq_right (by omega),List.drop_length,List.drop_of_length_le (by omega),List.take_nil]
theorem num_log {n:Nat} (h:n < 100):((n:Int)).natAbs.log2 < 1920:=by
 rw [Int.natAbs_natCast]
 by_cases hz:n=0
 ·subst hz;decide
 ·exact (Nat.log2_lt hz).mpr (Nat.lt_of_lt_of_le h (by
   have:2 ^ 7≤2 ^ 1920:=Nat.pow_le_pow_right (by decide) (by decide)
   omega))
def someT (m:Nat):List Str:=[Str.ofString "",Str.ofString "00",Str.ofString "01",Str.ofString "-1",Str.ofString "+1",Str.ofString "999",Str.ofString "a",Str.ofString "1.",Str.ofString "0 ",Str.ofString "0x",Str.ofString "1e",Str.ofString "-",Str.ofString "007",Str.ofString "100",Str.ofString "o",numT m]
theorem someT_len {m:Nat} (hm:m < 100):∀ y∈someT m,y.length≤3:=fun y hy=>by
 have h0:∀ y∈(someT 0).take 15,y.length≤3:=by decide +kernel
 have e:someT m=(someT 0).take 15 ++ [numT m]:=rfl
 rw [e] at hy
 rcases List.mem_append.mp hy with h | h
 ·exact h0 y h
 ·rw [List.mem_singleton.mp h];exact numT_len m hm
theorem ws_set {X:Cx} {es:List Expr} {te:TE} {i:Nat} {x:Str} {pos pos' lp:Pos} (hN:X.N.Nodup) (hi:X.N[i]?=some x) (hx:Loc X.env.scope x) (he:WE X (.List es lp) te) (hf:X.fn x=true∨X.env.scope.names.lookup x=some .local:=by first | exact .inl rfl | exact .inr rfl | assumption):WS X (.Assign [.Name x pos'] (.List es lp) pos) (tAsg te (gName i)):=⟨ps_set hN hi hx he.out swaps_list hf⟩
abbrev s_l_spoilt:Stmt:=top 62
def sp_l_spoilt:Sp:=fun vs H Q _=>∃ (l:Addr) (c:Int) (m:Nat) (ys:List Str),vs=[.ref l,.int c,.int (m:Int)]∧1≤m∧m < 100∧H l=some (.lst (ys.map V.str))∧ys.length≤1000∧(∀ y∈ys,y.length≤3) ∧
 ∀ l2 (zs:List Str) H',H' l2=some (.lst (zs.map V.str))→zs.length≤ys.length + 1→(∀ y∈zs,y.length≤3)→Same H H'→Q (.ref l2) H'
theorem sc_l_spoilt:FnScope ["_law_words","_law_cell_here","_law_many","_law_rest","_law_at","_law_some","_law_word"] ["_law_words","_law_cell_here","_law_many"] (defScope s_l_spoilt):=⟨rfl,rfl,rfl,by decide +kernel,rfl,by decide +kernel,by decide +kernel⟩
theorem ok_l_spoilt {f:Addr} {fd:FuncData} (F:Fun K "_law_spoilt" "_law_spoilt" s_l_spoilt f fd) (nb:NB mg):FnOk P w K mg base CX0 1 f fd ["_law_words","_law_cell_here","_law_many"] sp_l_spoilt:=by
 have sc:=sc_l_spoilt
 refine F.ok sc (fun vs H Q E h=>?_) (fun cdv A outer s H vs Q E hr h=>?_)
 ·obtain ⟨l,c,m,ys,rfl,_⟩:=h;rfl
 ·obtain ⟨l,c,m,ys,rfl,hm1,hm2,hl,hyl,hy3,q⟩:=h
  refine ⟨_,(pss_cons (ps_set (i:=3) sc.nd rfl (Or.inl rfl) (pe_op op_fdivP (pv 1) pe_int))
   (pss_consV (ps_set (i:=4) sc.nd rfl (Or.inl rfl) (pe_op op_mod (pv 3) (pe_op op_add (pe_callB call_lenL rfl nb.len bt_len (pa_cons (pv 0) pa_nil)) pe_int)))
   (wb_cons (ws_set (i:=5) sc.nd rfl (Or.inl rfl) (we_lst (wa_S (wa_S (wa_S (wa_S (wa_S (wa_S (wa_S (wa_S (wa_S (wa_S (wa_S (wa_S (wa_S (wa_S (wa_S (wa_e (pe_callTy call_str_int rfl nb.str bt_str (pa_cons (pv 2) pa_nil)) wa_nil))))))))))))))))))
   (pss_cons (ps_set (i:=6) sc.nd rfl (Or.inl rfl) (pe_ix ix_list (pv 5) (pe_op op_mod (pe_op op_fdivP (pv 3) pe_int) pe_int) (fun _ _=>rfl)))
   (pss_cons (ps_if (pt_cmpR op_eq (pe_op op_mod (pe_op op_fdivP (pv 3) pe_int) pe_int) pe_int (nomark _))
   (pss_one (ps_set (i:=6) sc.nd rfl (Or.inl rfl) (pe_callTy call_str_int rfl nb.str bt_str (pa_cons (pe_op op_mod (pe_op op_fdivP (pv 3) pe_int) (pv 2)) pa_nil))))
   pss_nil)
   (pss_cons (ps_if (pt_cmpR op_eq (pe_op op_mod (pv 1) pe_int) pe_int (nomark _))
   (pss_one (ps_ret (pe_op op_cat (pe_op op_cat (pe_slice sl_list (pv 0) po_none (po_some (pv 4))) (pe_lst (pa_cons (pv 6) pa_nil))) (pe_slice sl_list (pv 0) (po_some (pv 4)) po_none))))
   pss_nil)
   (pss_cons (ps_if (pt_cmpR op_eq (pe_op op_mod (pv 1) pe_int) pe_int (nomark _))
   (pss_one (ps_ret (pe_op op_cat (pe_slice sl_list (pv 0) po_none (po_some (pv 4))) (pe_slice sl_list (pv 0) (po_some (pe_op op_add (pv 4) pe_int)) po_none))))
   pss_nil)
   (pss_cons (ps_if (pt_cmpR op_eq (pe_op op_mod (pv 1) pe_int) pe_int (nomark _))
   (pss_one (ps_ret (pe_op op_cat (pe_op op_cat (pe_slice sl_list (pv 0) po_none (po_some (pv 4))) (pe_lst (pa_cons (pv 6) pa_nil))) (pe_slice sl_list (pv 0) (po_some (pe_op op_add (pv 4) pe_int)) po_none))))
   pss_nil)
   (pss_one (ps_ret (pv 0))))))))))),?_⟩
  refine seq_cut fun N1 h1=>?_
  walk_at "wp"
  refine h1 _ _ ?_
  clear h1
  generalize c / 4=rest
  refine seq_cut fun N1 h1=>?_
  walk_at "wp"
  refine ⟨_,SqL.of hl,by omega,h1 _ _ ?_⟩
  clear h1
  rw [List.length_map]
  obtain ⟨k,hk⟩:∃ k:Nat,rest % ((ys.length:Int) + 1)=(k:Int):=⟨_,(Int.toNat_of_nonneg (Int.emod_nonneg _ (by omega))).symm⟩
  have hk2:k≤ys.length:=by have:=Int.emod_lt_of_pos rest (b:=(ys.length:Int) + 1) (by omega);omega
  rw [hk]
  refine seq_cut fun N1 h1=>?_
  walk_at "wp"
  refine ⟨num_log hm2,line_le (by decide),fun lo hlo=>?_⟩
  refine (?_:∀ y1,y1=someT m→_) (someT m) rfl
  intro y1 hy1
  have he:([V.str (Str.ofString ""),V.str (Str.ofString "00"),V.str (Str.ofString "01"),V.str (Str.ofString "-1"),V.str (Str.ofString "+1"),V.str (Str.ofString "999"),V.str (Str.ofString "a"),V.str (Str.ofString "1."),V.str (Str.ofString "0 "),V.str (Str.ofString "0x"),V.str (Str.ofString "1e"),V.str (Str.ofString "-"),V.str (Str.ofString "007"),V.str (Str.ofString "100"),V.str (Str.ofString "o"),V.str (Str.ofString (toString (m:Int)))]:List V)=y1.map V.str:=by rw [hy1];rfl
  have hl16:y1.length=16:=by rw [hy1];rfl
  have hs3:∀ y∈y1,y.length≤3:=by rw [hy1];exact someT_len hm2
  rw [he]
  refine h1 _ _ ?_
  clear h1 he hy1
  have s1:Same H (upd H lo (.lst (y1.map V.str))):=same_upd hlo
  have e1:upd H lo (.lst (y1.map V.str)) lo=some (.lst (y1.map V.str)):=upd_same
  generalize upd H lo (.lst (y1.map V.str))=H1 at s1 e1 ⊢
  refine seq_cut fun N1 h1=>?_
  walk_at "wp"
  obtain ⟨d,hd⟩:∃ d:Nat,rest / 256 % 16=(d:Int):=⟨_,(Int.toNat_of_nonneg (Int.emod_nonneg _ (by omega))).symm⟩
  have d2:d < 16:=by have:=Int.emod_lt_of_pos (rest / 256) (b:=16) (by omega);omega
  rw [hd]
  refine ⟨_,SqL.of e1,V.str (y1[d]'(by omega)),atI_nat (by rw [List.getElem?_map,List.getElem?_eq_getElem (by omega)];rfl),h1 _ _ ?_⟩
  clear h1
  have hw3:(y1[d]'(by omega)).length≤3:=hs3 _ (List.getElem_mem _)
  generalize y1[d]'(by omega)=wd at hw3 ⊢
  refine seq_cut fun N1 h1=>?_
  have next:∀ wd:Str,wd.length≤3→N1 [some (V.ref l),some (V.int c),some (V.int m),some (V.int rest),some (V.int k),some (V.ref lo),some (V.str wd)] H1:=fun wd hw3=>by
   refine h1 _ _ ?_
   clear h1
   walk_at "wp"
   have hl1:=s1 _ _ hl
   have hlm:(ys.map V.str).length=ys.length:=List.length_map ..
   have ct:cutV (ys.map V.str) none (some (k:Int))=(ys.take k).map V.str:=by rw [cutT_to (by rw [hlm];exact hk2),List.map_take]
   have cd:∀ j:Nat,j≤ys.length→cutV (ys.map V.str) (some (j:Int)) none=(ys.drop j).map V.str:=fun j hj=>by rw [cutT_from (by rw [hlm];exact hj),List.map_drop]
   have cd1:cutV (ys.map V.str) (some ((k:Int) + 1)) none=(ys.drop (k + 1)).map V.str:=cutT_from1
   have t3:∀ y∈ys.take k,y.length≤3:=fun y hy=>hy3 y (List.mem_of_mem_take hy)
   have r3:∀ j,∀ y∈ys.drop j,y.length≤3:=fun j y hy=>hy3 y (List.mem_of_mem_drop hy)
   by_cases c1:c % 4=1
   ·rw [if_pos c1]
    refine ⟨_,SqL.of hl1,fun p1 hp1=>⟨line_le (by decide),?_⟩⟩
    rw [ct]
    intro p2 hp2
    refine ⟨_,same_upd hp2 _ _ upd_same,_,upd_same,line_le (by simp;omega),fun p3 hp3=>⟨_,SqL.of (same_upd hp3 _ _ (same_upd hp2 _ _ (same_upd hp1 _ _ hl1))),?_⟩⟩
    rw [cd k hk2]
    refine fun p4 hp4=>⟨_,same_upd hp4 _ _ upd_same,_,upd_same,line_le (by simp;omega),fun p5 hp5=>?_⟩
    refine q p5 (ys.take k ++ [wd] ++ ys.drop k) _ (by rw [upd_same,List.map_append,List.map_append];rfl) (by simp;omega) (fun y hy=>?_) (((s1.trans (same_upd hp1)).trans ((same_upd hp2).trans (same_upd hp3))).trans ((same_upd hp4).trans (same_upd hp5)))
    rcases List.mem_append.mp hy with h | h
    ·rcases List.mem_append.mp h with h | h
     ·exact t3 y h
     ·rw [List.mem_singleton.mp h];exact hw3
    ·exact r3 _ y h
   ·rw [if_neg c1]
    by_cases c2:c % 4=2
    ·rw [if_pos c2]
     refine ⟨_,SqL.of hl1,fun p1 hp1=>⟨_,SqL.of (same_upd hp1 _ _ hl1),?_⟩⟩
     rw [ct,cd1]
     refine fun p2 hp2=>⟨_,same_upd hp2 _ _ upd_same,_,upd_same,line_le (by simp;omega),fun p3 hp3=>?_⟩
     refine q p3 (ys.take k ++ ys.drop (k + 1)) _ (by rw [upd_same,List.map_append]) (by simp;omega) (fun y hy=>?_) ((s1.trans (same_upd hp1)).trans ((same_upd hp2).trans (same_upd hp3)))
     rcases List.mem_append.mp hy with h | h
     ·exact t3 y h
     ·exact r3 _ y h
    ·rw [if_neg c2]
     by_cases c3:c % 4=3
     ·rw [if_pos c3]
      refine ⟨_,SqL.of hl1,fun p1 hp1=>⟨line_le (by decide),?_⟩⟩
      rw [ct]
      intro p2 hp2
      refine ⟨_,same_upd hp2 _ _ upd_same,_,upd_same,line_le (by simp;omega),fun p3 hp3=>⟨_,SqL.of (same_upd hp3 _ _ (same_upd hp2 _ _ (same_upd hp1 _ _ hl1))),?_⟩⟩
      rw [cd1]
      refine fun p4 hp4=>⟨_,same_upd hp4 _ _ upd_same,_,upd_same,line_le (by simp;omega),fun p5 hp5=>?_⟩
      refine q p5 (ys.take k ++ [wd] ++ ys.drop (k + 1)) _ (by rw [upd_same,List.map_append,List.map_append];rfl) (by simp;omega) (fun y hy=>?_) (((s1.trans (same_upd hp1)).trans ((same_upd hp2).trans (same_upd hp3))).trans ((same_upd hp4).trans (same_upd hp5)))
      rcases List.mem_append.mp hy with h | h
      ·rcases List.mem_append.mp h with h | h
       ·exact t3 y h
       ·rw [List.mem_singleton.mp h];exact hw3
      ·exact r3 _ y h
     ·rw [if_neg c3]
      exact q l ys H1 hl1 (by omega) hy3 s1
  walk_at "wp"
  split
  ·obtain ⟨e,he⟩:∃ e:Nat,rest / 256 % (m:Int)=(e:Int):=⟨_,(Int.toNat_of_nonneg (Int.emod_nonneg _ (by omega))).symm⟩
   have e2:e < m:=by have:=Int.emod_lt_of_pos (rest / 256) (b:=(m:Int)) (by omega);omega
   rw [he]
   exact ⟨by omega,num_log (by omega),next _ (numT_len e (by omega))⟩
  ·exact next wd hw3
theorem forw_str {g:TG} {tb:TS} {D:Ends} {σ:St} {H:Hp} {r:List Nat} (Pv:Nat→St→Hp→Prop) (h0:Pv 0 σ H)
  (hs:∀ (i:Nat) c σ H,r[i]?=some c→Pv i σ H→g (.str ⟨#[c]⟩) σ H fun σ2 H2=>tb { D with nx:=Pv (i + 1),ct:=Pv (i + 1),bk:=D.nx } σ2 H2) (hd:∀ σ H,Pv r.length σ H→D.nx σ H):ForW (Its (tx r)) g tb D σ H:=by
 have hsz:(tx r).cps.size=r.length:=by rw [← Array.length_toList,tx_list]
 refine ⟨fun i m σ H=>Pv i σ H∧i≤r.length∧m=r.length + 1 - i,⟨_,h0,Nat.zero_le _,rfl⟩,?_⟩
 rintro i m σ' H' ⟨w,hi,rfl⟩
 rcases Nat.lt_or_ge i r.length with hlt | hge
 ·refine .inr ⟨by show i < (tx r).cps.size;omega,Pv (i + 1),fun σ2 H2 w2=>⟨r.length + 1 - (i + 1),by omega,w2,hlt,rfl⟩,fun x H2 y=>?_⟩
  obtain ⟨rfl,c,hc,rfl⟩:=y
  rw [← Array.getElem?_toList,tx_list] at hc
  exact hs i c σ' H2 hc w
 ·have e:i=r.length:=by omega
  subst e
  exact .inl ⟨by show (tx r).cps.size≤r.length;omega,hd _ _ w⟩
theorem tx_inj {a b:List Nat} (h:tx a=tx b):a=b:=by
 have e:(tx a).cps.toList=(tx b).cps.toList:=by rw [h]
 rwa [tx_list,tx_list] at e
theorem inT_iff (l:List Nat) (c:Nat):inT (tx l) c=true↔c∈l:=by
 unfold inT
 rcases StrLaws.occ_head (tx l) ⟨#[c]⟩ 1 (Nat.le_refl _) with ⟨h0,hn⟩ | ⟨i,r,h0,ha,_⟩
 ·rw [h0]
  refine ⟨fun h=>by simp at h,fun hm=>?_⟩
  obtain ⟨a,b,e⟩:=List.append_of_mem hm
  exfalso
  refine hn a.length ⟨?_,?_⟩
  ·show a.length + 1≤(tx l).length
   rw [tx_length,e];simp
  ·refine (PtM.sub_iff l [c] a.length (by rw [e];simp)).mpr ?_
   rw [e]
   simp
 ·rw [h0]
  refine ⟨fun _=>?_,fun _=>by simp⟩
  have hl:i + 1≤l.length:=by have:=ha.1;rw [tx_length] at this;exact this
  have:=(PtM.sub_iff l [c] i hl).mp ha.2
  rw [this]
  simp
def numR (j:Nat):List Nat:=if j < 10 then [48 + j] else [48 + j / 10,48 + j % 10]
theorem numT_R:∀ j,j < 100→numT j=tx (numR j):=by decide +kernel
theorem numR_int:∀ j,j < 100→PySem.intText? (tx (numR j))=some (j:Int):=by decide +kernel
theorem numR_inj {i j:Nat} (h:numR i=numR j) (hi:i < 100) (hj:j < 100):i=j:=by
 unfold numR at h
 split at h <;> split at h <;> simp at h <;> omega
def numW (m:Nat) (w:Str):Option Nat:=(List.range m).find? fun j=>decide (numT j=w)
theorem numW_lt {m n:Nat} {w:Str} (h:numW m w=some n):n < m∧numT n=w:=by
 unfold numW at h
 exact ⟨List.mem_range.mp (List.mem_of_find?_eq_some h),of_decide_eq_true (List.find?_some (p:=fun j=>decide (numT j=w)) h)⟩
theorem numW_some {m v:Nat} {r:List Nat} (hv:v < m) (hm:m≤100) (h:r=numR v):numW m (tx r)=some v:=by
 cases e:numW m (tx r) with
 | none=>
  unfold numW at e
  have:=List.find?_eq_none.mp e v (List.mem_range.mpr hv)
  rw [h,numT_R v (by omega)] at this
  simp at this
 | some u=>
  obtain ⟨h1,h2⟩:=numW_lt e
  rw [numT_R u (by omega)] at h2
  rw [numR_inj ((tx_inj h2).trans h) (by omega) (by omega)]
theorem numW_none {m:Nat} {r:List Nat} (hm:m≤100) (h:∀ v,v < m→r≠numR v):numW m (tx r)=none:=by
 cases e:numW m (tx r) with
 | none=>rfl
 | some u=>
  obtain ⟨h1,h2⟩:=numW_lt e
  rw [numT_R u (by omega)] at h2
  exact absurd (tx_inj h2).symm (h u h1)
def numV:Option Nat→V
 | some n=>V.int (n:Int)
 | none=>V.non
theorem fig_in {c:Nat}:inT (Str.ofString "0123456789") c=true↔48≤c∧c≤57:=by
 rw [show Str.ofString "0123456789" = tx [48,49,50,51,52,53,54,55,56,57] by decide +kernel,inT_iff]
 simp
 omega
abbrev s_l_number_of:Stmt:=top 63
def sp_l_number_of:Sp:=fun vs H Q _=>∃ (w:Str) (m:Nat),vs=[.str w,.int (m:Int)]∧m≤100∧w.length≤100000∧Q (numV (numW m w)) H
theorem sc_l_number_of:FnScope ["_law_word","_law_many","_law_sign"] ["_law_word","_law_many"] (defScope s_l_number_of):=⟨rfl,rfl,rfl,by decide +kernel,rfl,by decide +kernel,by decide +kernel⟩
theorem ok_l_number_of {f:Addr} {fd:FuncData} (F:Fun K "_law_number_of" "_law_number_of" s_l_number_of f fd) (nb:NB mg):FnOk P w K mg base CX0 1 f fd ["_law_word","_law_many"] sp_l_number_of:=by
 have sc:=sc_l_number_of
 refine F.ok sc (fun vs H Q E h=>?_) (fun cdv A outer s H vs Q E hr h=>?_)
 ·obtain ⟨r,m,rfl,_⟩:=h;rfl
 ·obtain ⟨w0,m,rfl,hm,hrl,q⟩:=h
  obtain ⟨r,rfl⟩:∃ r,w0=tx r:=⟨w0.cps.toList,by unfold tx;rw [Array.toArray_toList]⟩
  rw [tx_length] at hrl
  refine ⟨_,(pss_cons (ps_if (PW.pt (pw_or (pt_cmpR op_lt (pe_callB call_len_str rfl nb.len bt_len (pa_cons (pv 0) pa_nil)) pe_int (nomark _)) (pw_or (pt_cmpR op_gt (pe_callB call_len_str rfl nb.len bt_len (pa_cons (pv 0) pa_nil)) pe_int (nomark _)) (pw_or1 (PW.pt (pw_and (pt_cmpR op_eq (pe_callB call_len_str rfl nb.len bt_len (pa_cons (pv 0) pa_nil)) pe_int (nomark _)) (pw_and1 (pt_cmpR op_eq (pe_ix ix_str (pv 0) pe_int (fun _ _=>rfl)) pe_str (nomark _)))))))))
   (pss_one (ps_ret pe_non))
   pss_nil)
   (pss_cons (ps_forw PassesOwn.never rfl (pi_str (pv 0)) (pg_name (i:=2) sc.nd rfl (Or.inl rfl))
   (pss_one (ps_if (pt_cmpR op_notin_str (pv 2) pe_str (by with_unfolding_all rfl))
   (pss_one (ps_ret pe_non))
   pss_nil)))
   (pss_cons (ps_if (pt_cmpR op_ge (pe_callTy call_int_text rfl nb.int bt_int (pa_cons (pv 0) pa_nil)) (pv 1) (nomark _))
   (pss_one (ps_ret pe_non))
   pss_nil)
   (pss_one (ps_ret (pe_callTy call_int_text rfl nb.int bt_int (pa_cons (pv 0) pa_nil))))))),?_⟩
  have hsz:(tx r).length≤sizeLine:=by rw [tx_length];exact line_le (by omega)
  refine seq_cut fun N1 h1=>?_
  walk_at "wp"
  rw [tx_length]
  have hz:r.length≤sizeLine:=line_le (by omega)
  refine ⟨hz,?_⟩
  have bad:(∀ v,v < m→r≠numR v)→Q V.non H:=fun h=>by rw [numW_none hm h] at q;exact q
  have nlen:∀ v,(numR v).length=1∨(numR v).length=2:=fun v=>by unfold numR;split <;> simp
  have n48:∀ v b,v < 100→numR v≠[48,b]:=fun v b hv e=>by
   unfold numR at e
   split at e <;> simp at e
   omega
  have ndig:∀ v,v < 100→∀ c∈numR v,48≤c∧c≤57:=fun v hv c hc=>by
   unfold numR at hc
   split at hc <;> simp at hc <;> omega
  by_cases l1:(r.length:Int) < 1
  ·rw [if_pos l1]
   exact bad fun v hv e=>by have:=nlen v;rw [← e] at this;omega
  rw [if_neg l1]
  refine ⟨hz,?_⟩
  by_cases l2:2 < (r.length:Int)
  ·rw [if_pos l2]
   exact bad fun v hv e=>by have:=nlen v;rw [← e] at this;omega
  rw [if_neg l2]
  refine ⟨hz,?_⟩
  -- a word of one or two signs,not begun by a nought
  have next:(∀ b,r≠[48,b])→N1 [some (V.str (tx r)),some (V.int m),none] H:=fun h48=>by
   refine h1 _ _ ?_
   clear h1
   refine seq_cut fun N2 h2=>?_
   walk_at "wp"
   refine forw_str (r:=r) (fun i σ H'=>H'=H∧(∀ (j:Nat) c,j < i→r[j]?=some c→48≤c∧c≤57)∧∃ x,σ=[some (V.str (tx r)),some (V.int m),x]) ⟨rfl,fun j c h=>absurd h (Nat.not_lt_zero _),_,rfl⟩ ?_ ?_
   ·rintro i c σ H' hc ⟨rfl,hd,x,rfl⟩
    walk_at "wp"
    by_cases hf:inT (Str.ofString "0123456789") c=true
    ·have hf':(!(Builtin.Str.occurrences (Str.ofString "0123456789") { cps:=#[c] } 0 (Str.ofString "0123456789").length 1).isEmpty)=true:=hf
     rw [hf',if_neg (by decide)]
     intro j c' hj hc'
     by_cases e:j=i
     ·rw [e,hc] at hc';cases hc';exact fig_in.mp hf
     ·exact hd j c' (by omega) hc'
    ·have hf':(!(Builtin.Str.occurrences (Str.ofString "0123456789") { cps:=#[c] } 0 (Str.ofString "0123456789").length 1).isEmpty)=false:=by
      cases hb:(!(Builtin.Str.occurrences (Str.ofString "0123456789") { cps:=#[c] } 0 (Str.ofString "0123456789").length 1).isEmpty) with
      | false=>rfl
      | true=>exact absurd hb hf
     rw [hf',if_pos rfl]
     exact bad fun v hv e=>hf (fig_in.mpr (ndig v (by omega) c (by rw [← e];exact List.mem_of_getElem? hc)))
   ·rintro σ H' ⟨rfl,hd,x,rfl⟩
    refine h2 _ _ ?_
    clear h2
    have hall:∀ c∈r,48≤c∧c≤57:=fun c hc=>by
     obtain ⟨j,hj⟩:=List.mem_iff_getElem?.mp hc
     exact hd j c (List.getElem?_eq_some_iff.mp hj).1 hj
    have hv:∃ v,v < 100∧r=numR v:=by
     match r,(show r.length=1∨r.length=2 by omega),hall,h48 with
     | [a],_,hall,_=>exact ⟨a - 48,by have:=hall a (by simp);omega,by have:=hall a (by simp);unfold numR;rw [if_pos (by omega)];congr 1;omega⟩
     | [a,b],_,hall,h48=>
      have ha:=hall a (by simp)
      have hb:=hall b (by simp)
      have h0:a≠48:=fun e=>h48 b (by rw [e])
      refine ⟨(a - 48) * 10 + (b - 48),by omega,?_⟩
      unfold numR
      rw [if_neg (by omega)]
      congr 1
      ·omega
      ·congr 1;omega
    obtain ⟨v,hv1,hv2⟩:=hv
    have hint:PySem.intText? (tx r)=some (v:Int):=by rw [hv2];exact numR_int v hv1
    have hl6:(tx r).length≤640:=by rw [tx_length];omega
    walk_at "wp"
    refine ⟨_,hint,hl6,?_⟩
    by_cases hvm:(m:Int)≤(v:Int)
    ·rw [if_pos hvm]
     exact bad fun u hu e=>by
      have:=numR_inj (hv2.symm.trans e) hv1 (by omega)
      omega
    ·rw [if_neg hvm]
     refine ⟨_,hint,hl6,?_⟩
     rw [numW_some (by omega) hm hv2] at q
     exact q
  by_cases l3:(r.length:Int)=2
  ·rw [if_pos l3]
   obtain ⟨a,b,rfl⟩:∃ a b,r=[a,b]:=by match r,(show r.length=2 by omega) with | [a,b],_=>exact ⟨a,b,rfl⟩
   refine ⟨hz,a,rfl,?_⟩
   have e0:(({ cps:=#[a] }:Str)=Str.ofString "0")↔a=48:=by
    rw [show Str.ofString "0" = tx [48] by decide +kernel]
    exact ⟨fun h=>by have:=tx_inj (a:=[a]) (b:=[48]) h;simpa using this,fun h=>by rw [h];rfl⟩
   by_cases a0:a=48
   ·rw [if_pos (e0.mpr a0)]
    exact bad fun v hv e=>n48 v b (by omega) (by rw [← e,a0])
   ·rw [if_neg (fun h=>a0 (e0.mp h))]
    exact next fun b' h=>a0 (by simpa using (List.cons.inj h).1)
  ·rw [if_neg l3]
   exact next fun b h=>l3 (by rw [h];rfl)
def dueV:Nat ⊕ List Nat→V
 | .inl i=>V.int (i:Int)
 | .inr _=>V.non
theorem numsV_last {ns:List Nat} {d:Nat} (h:ns.getLast?=some d):ns≠[]∧(numsV ns)[(numsV ns).length - 1]?=some (V.int (d:Int))∧(numsV ns).dropLast=numsV ns.dropLast:=by
 refine ⟨fun e=>by rw [e] at h;simp at h,?_,by unfold numsV;rw [List.map_dropLast]⟩
 rw [numsV_len]
 rw [List.getLast?_eq_getElem?] at h
 exact numsV_get h
theorem nil_eq {H:Hp} {a b:Addr} {wt:List Nat} {Q:VK} {neg:Bool} (ha:H a=some (.lst (numsV wt))) (hb:H b=some (.lst [])) (q:Q (.bl (decide (wt=[]) != neg)) H):rEqD K neg (.ref a) (.ref b) H Q:=by
 by_cases e:wt=[]
 ·subst e
  refine .inl ⟨[],by unfold Dt.deps;omega,.inl ⟨?_,?_⟩,by simpa using q⟩
  ·unfold RdD;exact ⟨a,_,rfl,SqL.of ha,by unfold RdDs;rfl⟩
  ·unfold RdD;exact ⟨b,_,rfl,SqL.of hb,by unfold RdDs;rfl⟩
 ·rw [decide_eq_false e] at q
  refine .inr ⟨a,b,_,_,rfl,rfl,SqL.of ha,SqL.of hb,?_,by simpa using q⟩
  rw [numsV_len]
  intro h
  exact e (List.length_eq_zero_iff.mp h)
theorem rep_cons {α:Type} (a:α) (j:Nat):a :: List.replicate j a=List.replicate j a ++ [a]:=by rw [← List.replicate_succ,List.replicate_succ']
abbrev s_l_due:Stmt:=top 64
def sp_l_due:Sp:=fun vs H Q _=>∃ (l lw:Addr) (ts:List Addr) (rs:List (Nat × RV)) (ws:List Str),vs=[.ref l,.ref lw]∧RowsAt H l ts rs∧(∀ r∈rs,r.1 < 4)∧rs.length≤100∧H lw=some (.lst (ws.map V.str))∧ws.length≤10000∧(∀ w∈ws,w.length≤100000) ∧
 ∀ H',Same H H'→Q (dueV (goW (npar rs) (numW rs.length) 0 ws [1])) H'
theorem sc_l_due:FnScope ["_law_rules_here","_law_words","_law_wanted","_law_at","_law_word","_law_number","_law_deep","_law_part"] ["_law_rules_here","_law_words"] (defScope s_l_due):=⟨rfl,rfl,rfl,by decide +kernel,rfl,by decide +kernel,by decide +kernel⟩
theorem ok_l_due {f:Addr} {fd:FuncData} (F:Fun K "_law_due" "_law_due" s_l_due f fd) (nb:NB mg) (zqa:Cal P w K mg base CX0 1 "_law_parts" ["_law_told_here"] sp_l_parts) (zhb:Cal P w K mg base CX0 1 "_law_number_of" ["_law_word","_law_many"] sp_l_number_of):FnOk P w K mg base CX0 2 f fd ["_law_rules_here","_law_words"] sp_l_due:=by
 have sc:=sc_l_due
 refine F.ok sc (fun vs H Q E h=>?_) (fun cdv A outer s H vs Q E hr h=>?_)
 ·obtain ⟨l,lw,ts,rs,ws,rfl,_⟩:=h;rfl
 ·obtain ⟨l,lw,ts,rs,ws,rfl,hR,hk4,hn,hw,hwl,hws,q⟩:=h
  have hu:=hr.units
  refine ⟨_,(pss_cons (ps_set (i:=2) sc.nd rfl (Or.inl rfl) (pe_lst (pa_consI pa_nil)))
   (pss_cons (ps_forw PassesOwn.never rfl (pi_enum rfl nb.enumerate (pa_cons (pv 1) pa_nil)) (pg_tup (n:=2) rfl (pgs_cons (pg_name (i:=3) sc.nd rfl (Or.inl rfl)) (pgs_cons (pg_name (i:=4) sc.nd rfl (Or.inl rfl)) pgs_nil)))
   (pss_cons (ps_if (PW.pt (pw_or (pt_cmpR (op_eqD hu) (pv 2) (pe_lst pa_nil) (nomark _)) (pw_or (pt_cmpR op_eq (pv 3) pe_int (nomark _)) (pw_or1 (pt_cmpR op_gt (pe_ix ix_list (pv 2) (pe_un un_neg pe_int) (fun _ _=>rfl)) pe_int (nomark _))))))
   (pss_one (ps_ret (pv 3)))
   pss_nil)
   (pss_cons (ps_set (i:=5) sc.nd rfl (Or.inl rfl) (pe_cal zhb (hr.mono (by decide)) rfl pass0 (pa_cons (pv 4) (pa_cons (pe_callB call_lenL rfl nb.len bt_len (pa_cons (pv 0) pa_nil)) pa_nil))))
   (pss_cons (ps_if (pt_cmpR op_isN (pv 5) pe_non (nomark _))
   (pss_one (ps_ret (pv 3)))
   pss_nil)
   (pss_cons (ps_set (i:=6) sc.nd rfl (Or.inl rfl) (pe_bm0 PySem.F.plainAttrs_list PySem.F.slot_list_pop PySem.F.type_list_pop mt_pop (pv 2)))
   (pss_one (ps_forw PassesOwn.never rfl (pi_list (pe_cal zqa (hr.mono (by decide)) rfl pass0 (pa_cons (pe_ix ix_list (pv 0) (pv 5) (fun _ _=>rfl)) pa_nil))) (pg_name (i:=7) sc.nd rfl (Or.inl rfl))
   (pss_one (ps_expr (pe_bm PySem.F.plainAttrs_list PySem.F.slot_list_append PySem.F.type_list_append mt_append (pv 2) (pa_cons (pe_op op_add (pv 6) pe_int) pa_nil)))))))))))
   (pss_cons (ps_if (pt_cmpR (op_neD hu) (pv 2) (pe_lst pa_nil) (nomark _))
   (pss_one (ps_ret (pe_callB call_lenL rfl nb.len bt_len (pa_cons (pv 1) pa_nil))))
   pss_nil)
   (pss_one (ps_ret pe_non))))),?_⟩
  refine seq_cut fun N1 h1=>?_
  walk_at "wp"
  refine ⟨line_le (by decide),fun lt hlt=>h1 _ _ ?_⟩
  clear h1
  have s1:Same H (upd H lt (.lst [V.int 1])):=same_upd hlt
  have e1:upd H lt (.lst [V.int 1]) lt=some (.lst (numsV [1])):=upd_same
  generalize upd H lt (.lst [V.int 1])=H1 at s1 e1 ⊢
  refine seq_cut fun N1 h1=>?_
  walk_at "wp"
  refine ⟨_,SqL.of (s1 _ _ hw),?_⟩
  refine forw_enum (xs:=ws.map V.str) (fun i σ H'=>Same H H'∧(∃ ns wt:List Nat,H' lt=some (.lst (numsV wt))∧goW (npar rs) (numW rs.length) 0 ws [1]=preW ns (goW (npar rs) (numW rs.length) i (ws.drop i) wt)∧wt.length≤1 + 2 * i∧i≤200)∧∃ x1 x2 x3 x4 x5,σ=[some (.ref l),some (.ref lw),some (.ref lt),x1,x2,x3,x4,x5]) ⟨s1,⟨[],[1],e1,go_start ws,by decide,by decide⟩,_,_,_,_,_,rfl⟩ ?_ ?_ ?_
  ·rintro i σ H' _ ⟨sm,_⟩
   exact SqL.of (sm _ _ hw)
  ·rintro i x σ H2 T hx ⟨sm,⟨ns,wt,hwt,hgo,hwl2,h200⟩,x1,x2,x3,x4,x5,rfl⟩ hT
   have hlt':i < ws.length:=by have:=(List.getElem?_eq_some_iff.mp hx).1;rwa [List.length_map] at this
   rw [List.getElem?_map,List.getElem?_eq_getElem hlt'] at hx
   cases hx
   have hwi:ws[i]?=some ws[i]:=List.getElem?_eq_getElem hlt'
   have hwm:=hws _ (List.getElem_mem hlt')
   generalize ws[i]=wd at hwi hwm ⊢
   have s3:Same H2 (upd H2 T (.tup [.int (i:Int),.str wd])):=same_upd hT
   have e3:upd H2 T (.tup [.int (i:Int),.str wd]) T=some (.tup [.int (i:Int),.str wd]):=upd_same
   generalize upd H2 T (.tup [.int (i:Int),.str wd])=H3 at s3 e3 ⊢
   have sm3:=sm.trans s3
   have hwt3:=s3 _ _ hwt
   have badQ:stepW (npar rs) (numW rs.length) i wd wt=none→∀ H',Same H H'→Q (V.int (i:Int)) H':=fun h H' sm'=>by
    have:=q H' sm'
    rw [go_bad hgo hwi h] at this
    exact this
   walk_at "wp"
   refine ⟨_,SqT.of e3,rfl,_,_,rfl,_,_,rfl,rfl,?_⟩
   refine ⟨Nat.zero_le _,fun p hp=>?_⟩
   have hlp:lt≠p:=fun e=>by rw [← e,hwt3] at hp;cases hp
   have s4:Same H3 (upd H3 p (.lst [])):=same_upd hp
   refine nil_eq (wt:=wt) (s4 _ _ hwt3) upd_same ?_
   have sm4:=sm3.trans s4
   have hwt4:=s4 _ _ hwt3
   generalize upd H3 p (.lst [])=H4 at s4 sm4 hwt4 ⊢
   refine ⟨_,rfl,?_⟩
   by_cases w0:wt=[]
   ·rw [if_pos (by rw [decide_eq_true w0];rfl)]
    exact badQ (by rw [w0];unfold stepW;cases numW rs.length wd <;> rfl) _ sm4
   rw [if_neg (by rw [decide_eq_false w0];decide)]
   obtain ⟨d,hd⟩:∃ d,wt.getLast?=some d:=⟨_,List.getLast?_eq_some_getLast w0⟩
   obtain ⟨_,hlast,hdrop⟩:=numsV_last hd
   refine ⟨by simp [scal],?_⟩
   by_cases i2:i=200
   ·rw [if_pos (by rw [i2];rfl)]
    refine badQ ?_ _ sm4
    unfold stepW
    rw [hd]
    cases numW rs.length wd with
    | none=>rfl
    | some n=>simp only [];rw [if_pos (.inl (by omega))]
   rw [if_neg (fun h=>i2 (by have:=V.int.inj h;omega))]
   have hpos:0 < wt.length:=List.length_pos_iff.mpr w0
   refine ⟨_,SqL.of hwt4,V.int (d:Int),atI_m1 (k:=(numsV wt).length - 1) (by rw [numsV_len];omega) hlast,(d:Int),rfl,?_⟩
   by_cases d60:60 < (d:Int)
   ·rw [if_pos d60]
    refine badQ ?_ _ sm4
    unfold stepW
    rw [hd]
    cases numW rs.length wd with
    | none=>rfl
    | some n=>simp only [];rw [if_pos (.inr (by omega))]
   rw [if_neg d60]
   have hR4:=hR.up sm4
   have hts:((ts.map V.ref).length:Int)=(rs.length:Int):=by rw [List.length_map,hR.2.1]
   refine ⟨_,SqL.of hR4.1,?_⟩
   rw [hts]
   refine ⟨wd,rs.length,rfl,hn,hwm,?_⟩
   cases hnum:numW rs.length wd with
   | none=>
    show if V.non=V.non then _ else _
    rw [if_pos rfl]
    exact badQ (by unfold stepW;rw [hnum]) _ sm4
   | some n=>
    show if V.int (n:Int)=V.non then _ else _
    rw [if_neg (fun h=>nomatch h)]
    have hnl:=(numW_lt hnum).1
    obtain ⟨t,r,e5,e6,e7⟩:=hR4.got hnl
    have hstep:stepW (npar rs) (numW rs.length) i wd wt=some (n,wt.dropLast ++ List.replicate (npar rs n) (d + 1)):=by
     unfold stepW
     rw [hnum,hd]
     simp only []
     rw [if_neg (by omega)]
    have hgo':=go_step hgo hwi hstep
    refine ⟨.inl ⟨rfl,_,SqL.of hwt4⟩,_,hwt4,_,hlast,ts.map V.ref,n,rfl,?_⟩
    rw [hdrop]
    have s5:Same H (upd H4 lt (.lst (numsV wt.dropLast))):=same_upd2 sm4 hlt
    have t5:upd H4 lt (.lst (numsV wt.dropLast)) t=some (.tup (rowV r)):=by rw [upd_ne (fun e=>by rw [e,hwt4] at e7;cases e7)];exact e7
    have w5:upd H4 lt (.lst (numsV wt.dropLast)) lt=some (.lst (numsV wt.dropLast)):=upd_same
    generalize upd H4 lt (.lst (numsV wt.dropLast))=H5 at s5 t5 w5 ⊢
    refine ⟨SqL.of (hR.up s5).1,V.ref t,atI_nat (by rw [List.getElem?_map,e5];rfl),t,r,rfl,t5,hk4 r (List.mem_of_getElem? e6),fun l2 H6 hl2 hp2 s6=>?_⟩
    have hp2:H6 l2=some (.lst (rowsV (partsK r.1 r.2))):=hp2
    refine ⟨l2,rfl,⟨_,SqL.of hp2⟩,?_⟩
    have hnp:=npar_get e6
    have hfew:=npar_le rs n
    have hll:l2≠lt:=fun e=>by rw [e,w5] at hl2;cases hl2
    have fr:H lt=none:=hlt
    refine forw_list (xs:=rowsV (partsK r.1 r.2)) (fun j σ H'=>Same H H'∧H' l2=some (.lst (rowsV (partsK r.1 r.2)))∧H' lt=some (.lst (numsV (wt.dropLast ++ List.replicate j (d + 1))))∧j≤npar rs n∧∃ y,σ=[some (V.ref l),some (V.ref lw),some (V.ref lt),some (V.int i),some (V.str wd),some (V.int n),some (V.int d),y]) ⟨s5.trans s6,hp2,by rw [List.replicate_zero,List.append_nil];exact s6 _ _ w5,Nat.zero_le _,_,rfl⟩ ?_ ?_ ?_
    ·rintro j σ H' _ ⟨_,h,_⟩
     exact SqL.of h
    ·rintro j x σ H' hx ⟨sm6,h2,hw6,hj,y,rfl⟩
     have hj2:j < npar rs n:=by have:=(List.getElem?_eq_some_iff.mp hx).1;rw [rowsV_length] at this;omega
     walk_at "wp"
     refine ⟨.inl ⟨rfl,_,SqL.of hw6⟩,_,hw6,?_,same_upd2 sm6 fr,by rw [upd_ne hll];exact h2,?_,hj2⟩
     ·rw [numsV_len,List.length_append,List.length_dropLast,List.length_replicate];exact line_big (by omega)
     ·rw [upd_same,rep_cons,← List.append_assoc,numsV_app (wt.dropLast ++ List.replicate j (d + 1))];rfl
    ·rintro σ H' ⟨sm6,h2,hw6,hj,y,rfl⟩
     rw [rowsV_length,← hnp] at hw6
     refine ⟨sm6,⟨_,_,hw6,hgo',?_,by omega⟩,_,_,_,_,_,rfl⟩
     rw [List.length_append,List.length_dropLast,List.length_replicate]
     omega
  ·rintro σ H' ⟨sm,⟨ns,wt,hwt,hgo,hwl2,h200⟩,x1,x2,x3,x4,x5,rfl⟩
   rw [List.length_map] at hgo
   refine h1 _ _ ?_
   clear h1
   walk_at "wp"
   refine ⟨Nat.zero_le _,fun p hp=>?_⟩
   refine nil_eq (wt:=wt) (same_upd hp _ _ hwt) upd_same ?_
   refine ⟨_,rfl,?_⟩
   have ge:=go_end hgo
   have q':=q _ (sm.trans (same_upd (o:=.lst []) hp))
   by_cases w0:wt=[]
   ·rw [if_neg (by rw [decide_eq_true w0];decide)]
    rw [ge.1 w0] at q'
    exact q'
   ·rw [if_pos (by rw [decide_eq_false w0];rfl)]
    rw [ge.2 w0] at q'
    refine ⟨_,SqL.of (same_upd hp _ _ (sm _ _ hw)),?_⟩
    rw [List.length_map]
    exact q'
theorem pile_le (np:Nat→Nat):∀ ns:List Nat,(pileOf np ns).length≤ns.length
 | []=>Nat.le_refl _
 | n :: ns=>by have:=pile_le np ns;rw [pile_len,List.length_cons];omega
theorem fits_drop {np:Nat→Nat}:∀ (k:Nat) {ns:List Nat},fits np ns→fits np (ns.drop k)
 | 0,ns,h=>h
 | k + 1,[],h=>h
 | k + 1,n :: ns,h=>fits_drop k h.1
theorem rev_step {ns:List Nat} {i:Nat} (hi:i < ns.length):ns.drop (ns.length - (i + 1))=ns[ns.length - 1 - i]'(by omega) :: ns.drop (ns.length - i):=by
 have h:ns.length - (i + 1) < ns.length:=by omega
 rw [List.drop_eq_getElem_cons h,show ns.length - (i + 1) + 1=ns.length - i by omega]
 congr 1
 congr 1
 omega
theorem rev_last {α:Type} (y:α) (ys:List α):(y :: ys).reverse[(y :: ys).reverse.length - 1]?=some y∧(y :: ys).reverse.dropLast=ys.reverse:=by
 constructor
 ·rw [List.reverse_cons,List.length_append]
  simp
 ·rw [List.reverse_cons,List.dropLast_concat]
theorem parts_do {R:RC} {H:Hp} {k:Nat} {a:Addr} {v:RV} {Q:VK} {E:XK} (rk:RKit K R) (r:RuleAt R H k a v) (q:GivesPic H (partsK k v) Q) :
  ∃ o,o∈oParts K R∧∃ a2,V.ref a=V.ref a2∧∃ dx fs,H a2=some (.ins o.1 dx fs)∧fs.lookup (Str.ofString "parts")=none∧o.2 [.ref a] H Q E:=by
 obtain ⟨o,ho,dx',fs,k1,k2,k3⟩:=parts_any (E:=E) rk r q
 exact ⟨o,ho,a,rfl,dx',fs,k1,k2,k3⟩
abbrev s_grown:Stmt:=top 17
def sp_grown (R:RC) (C:Addr):Sp:=fun vs H Q _=>∃ (a dx l:Addr) (sg st:List Nat) (as:List Addr) (rs:List (Nat × RV)) (ns:List Nat),vs=[.ref a,.ref l]∧GramF R H C dx a sg st as rs∧H l=some (.lst (numsV ns))∧(∀ n∈ns,n < rs.length)∧fits (npar rs) ns∧(pileOf (npar rs) ns).length=1∧ns.length≤10000 ∧
 ∀ d v H',pileOf (npar rs) ns=[d]→TrAt H' d v→Same H H'→Q v H'
theorem sc_grown:FnScope ["grammar","numbers","waiting","number","tree","part"] ["grammar","numbers"] (defScope s_grown):=⟨rfl,rfl,rfl,by decide +kernel,rfl,by decide +kernel,by decide +kernel⟩
theorem ok_grown {R:RC} {f C:Addr} {fd:FuncData} (F:Fun K "grown" "grown" s_grown f fd) (nb:NB mg) (rk:RKit K R) (cp_parts:CalP P w K mg base CX0 1 "parts" (oParts K R)) (cm_rule:CalM P w K mg base CX0 1 C "rule" ["self","k"] (sp_gram_rule R C)):FnOk P w K mg base CX0 2 f fd ["grammar","numbers"] (sp_grown R C):=by
 have sc:=sc_grown
 refine F.ok sc (fun vs H Q E h=>?_) (fun cdv A outer s H vs Q E hr h=>?_)
 ·obtain ⟨a,dx,l,sg,st,as,rs,ns,rfl,_⟩:=h;rfl
 ·obtain ⟨a,dx,l,sg,st,as,rs,ns,rfl,g,hl,hns,hfit,hone,hnl,q⟩:=h
  obtain ⟨lk,pn,t,ha,hk,hrs,hN,hm⟩:=id g
  have hu:=hr.units
  refine ⟨_,(pss_cons (ps_set (i:=2) sc.nd rfl (Or.inl rfl) (pe_lst pa_nil))
   (pss_cons (ps_forw PassesOwn.never rfl (pi_rev rfl nb.reversed (pa_cons (pv 1) pa_nil)) (pg_name (i:=3) sc.nd rfl (Or.inl rfl))
   (pss_cons (ps_set (i:=4) sc.nd rfl (Or.inl rfl) (pe_tup (pa_cons (pv 3) pa_nil)))
   (pss_cons (ps_forw PassesOwn.never rfl (pi_list (pe_calP0 cp_parts (hr.mono (by decide)) pass0 (pe_calM cm_rule (hr.mono (by decide)) pass0 (pv 0) (pa_cons (pv 3) pa_nil)))) (pg_name (i:=5) sc.nd rfl (Or.inl rfl))
   (pss_one (ps_set (i:=4) sc.nd rfl (Or.inl rfl) (pe_op op_catT (pv 4) (pe_tup (pa_cons (pe_bm0 PySem.F.plainAttrs_list PySem.F.slot_list_pop PySem.F.type_list_pop mt_pop (pv 2)) pa_nil))))))
   (pss_one (ps_expr (pe_bm PySem.F.plainAttrs_list PySem.F.slot_list_append PySem.F.type_list_append mt_append (pv 2) (pa_cons (pv 4) pa_nil)))))))
   (pss_one (ps_ret (pe_ix ix_list (pv 2) pe_int (fun _ _=>rfl)))))),?_⟩
  refine seq_cut fun N1 h1=>?_
  walk_at "wp"
  refine ⟨Nat.zero_le _,fun lw hlw=>h1 _ _ ?_⟩
  clear h1
  have s1:Same H (upd H lw (.lst [])):=same_upd hlw
  have e1:upd H lw (.lst []) lw=some (.lst []):=upd_same
  generalize upd H lw (.lst [])=H1 at s1 e1 ⊢
  refine seq_cut fun N1 h1=>?_
  walk_at "wp"
  refine ⟨_,SqL.of (s1 _ _ hl),?_⟩
  refine forw_rev (xs:=numsV ns) (fun i σ H'=>Same H H'∧(∃ ys,H' lw=some (.lst ys.reverse)∧TrAts H' (pileOf (npar rs) (ns.drop (ns.length - i))) ys)∧∃ x1 x2 x3,σ=[some (.ref a),some (.ref l),some (.ref lw),x1,x2,x3]) ⟨s1,⟨[],e1,?_⟩,_,_,_,rfl⟩ ?_ ?_ ?_
  ·rw [Nat.sub_zero,List.drop_length];exact TrAts.nil
  ·rintro i σ H' _ ⟨sm,_⟩
   exact SqL.of (sm _ _ hl)
  ·rintro i x σ H2 hi hx ⟨sm,⟨ys,hys,hT⟩,x1,x2,x3,rfl⟩
   rw [numsV_len] at hi hx
   have hx':x=V.int ((ns[ns.length - 1 - i]'(by omega):Nat):Int):=by
    rw [numsV_get (List.getElem?_eq_getElem (by omega))] at hx
    exact (Option.some.inj hx).symm
   subst hx'
   have hstep:=rev_step hi
   have hfit2:=fits_drop (ns.length - (i + 1)) hfit
   have hlt:=hns _ (List.getElem_mem (show ns.length - 1 - i < ns.length by omega))
   rw [hstep] at hfit2
   have hPl:=pile_le (npar rs) (ns.drop (ns.length - i))
   rw [List.length_drop] at hPl
   rw [hstep]
   generalize ns[ns.length - 1 - i]'(by omega)=n at hfit2 hlt ⊢
   obtain ⟨_,hfn⟩:=hfit2
   rw [pileOf]
   generalize pileOf (npar rs) (ns.drop (ns.length - i))=PP at hT hfn hPl ⊢
   walk_at "wp"
   refine ⟨line_le (by decide),fun p hp=>?_⟩
   have s2:Same H2 (upd H2 p (.tup [V.int (n:Int)])):=same_upd hp
   have e2:upd H2 p (.tup [V.int (n:Int)]) p=some (.tup [V.int (n:Int)]):=upd_same
   generalize upd H2 p (.tup [V.int (n:Int)])=H3 at s2 e2 ⊢
   have sm3:=sm.trans s2
   have g3:=g.up sm3
   have hlr:n < as.length:=by rw [hrs.1];exact hlt
   have hb:as[n]?=some as[n]:=List.getElem?_eq_getElem hlr
   have hrn:rs[n]?=some rs[n]:=List.getElem?_eq_getElem hlt
   have rr:=(hrs.2 n _ _ hb hrn).up sm3
   generalize as[n]=b at hb rr
   have hnp:=npar_get hrn
   generalize rs[n]=r at hrn rr hnp
   refine ⟨dx,_,sm3 _ _ ha,rfl,a,dx,sg,st,as,rs,n,b,rfl,g3,hb,?_⟩
   refine parts_do rk rr ?_
   ·intro l2 H4 hl2 hp2 s4
    have hp2:H4 l2=some (.lst (rowsV (partsK r.1 r.2))):=hp2
    refine ⟨l2,rfl,⟨_,SqL.of hp2⟩,?_⟩
    have hll:l2≠lw:=fun e=>by rw [e,s2 _ _ hys] at hl2;cases hl2
    refine forw_list (xs:=rowsV (partsK r.1 r.2)) (fun j σ H'=>Same H H'∧H' l2=some (.lst (rowsV (partsK r.1 r.2)))∧(∃ (tt:Addr) (zs ys:List V) (y:Option V),H' tt=some (.tup (V.int n :: zs))∧TrAts H' (PP.take j) zs∧H' lw=some (.lst ys.reverse)∧TrAts H' (PP.drop j) ys∧σ=[some (V.ref a),some (V.ref l),some (V.ref lw),some (V.int n),some (V.ref tt),y])∧j≤npar rs n) ⟨sm3.trans s4,hp2,⟨p,[],ys,_,s4 _ _ e2,by rw [List.take_zero];exact TrAts.nil,s4 _ _ (s2 _ _ hys),by rw [List.drop_zero];exact hT.up (TupS.of (s2.trans s4)) _,rfl⟩,Nat.zero_le _⟩ ?_ ?_ ?_
    ·rintro j σ H' _ ⟨_,h,_⟩
     exact SqL.of h
    ·rintro j x σ H' hx ⟨sm5,h2,⟨tt,zs,ys,y,htt,hz,hw,hy,rfl⟩,hj⟩
     have hj2:j < npar rs n:=by have:=(List.getElem?_eq_some_iff.mp hx).1;rw [rowsV_length] at this;omega
     have hjP:j < PP.length:=by omega
     rw [List.drop_eq_getElem_cons hjP] at hy
     obtain ⟨v,ys',rfl,hv,hy'⟩:=hy.uncons
     obtain ⟨r1,r2⟩:=rev_last v ys'
     walk_at "wp"
     refine ⟨.inl ⟨rfl,_,SqL.of hw⟩,_,hw,_,r1,line_le (by decide),?_⟩
     rw [r2]
     have u1:TupS H' (upd H' lw (.lst ys'.reverse)):=TupS.put hw
     have t1:Same H (upd H' lw (.lst ys'.reverse)):=same_upd2 sm5 hlw
     have w1:upd H' lw (.lst ys'.reverse) lw=some (.lst ys'.reverse):=upd_same
     have l1:upd H' lw (.lst ys'.reverse) l2=some (.lst (rowsV (partsK r.1 r.2))):=by rw [upd_ne hll];exact h2
     generalize upd H' lw (.lst ys'.reverse)=H6 at u1 t1 w1 l1 ⊢
     intro p1 hp1
     refine catT_do (same_upd hp1 _ _ (u1 _ _ htt)) upd_same (by simp) (by simp) ?_ fun p2 hp2=>?_
     ·have:=hz.length
      rw [List.length_take] at this
      have:=npar_le rs n
      simp
      omega
     ·have s7:Same H6 (upd (upd H6 p1 (.tup [v])) p2 (.tup ((V.int (n:Int) :: zs) ++ [v]))):=(same_upd hp1).trans (same_upd hp2)
      have u7:=u1.trans (TupS.of s7)
      refine ⟨t1.trans s7,s7 _ _ l1,⟨p2,zs ++ [v],by rw [upd_same];rfl,?_,ys',s7 _ _ w1,hy'.up u7 _,rfl⟩,hj2⟩
      rw [List.take_succ_eq_append_getElem hjP]
      exact (hz.up u7 _).app (TrAts.cons (hv.up u7 _) TrAts.nil)
    ·rintro σ H' ⟨sm5,h2,⟨tt,zs,ys,y,htt,hz,hw,hy,rfl⟩,hj⟩
     rw [rowsV_length,← hnp] at hz hy
     walk_at "wp"
     have hyl:=hy.length
     rw [List.length_drop] at hyl
     have u1:TupS H' (upd H' lw (.lst (ys.reverse ++ [V.ref tt]))):=TupS.put hw
     refine ⟨.inl ⟨rfl,_,SqL.of hw⟩,_,hw,?_,same_upd2 sm5 hlw,V.ref tt :: ys,by rw [upd_same,List.reverse_cons],TrAts.cons (TrAt.node (u1 _ _ htt) (hz.up u1 _)) (hy.up u1 _)⟩
     rw [List.length_reverse];exact line_big (by omega)
  ·rintro σ H' ⟨sm,⟨ys,hys,hT⟩,x1,x2,x3,rfl⟩
   rw [numsV_len,Nat.sub_self,List.drop_zero] at hT
   obtain ⟨d,hd⟩:∃ d,pileOf (npar rs) ns=[d]:=by
    match pileOf (npar rs) ns,hone with
    | [d],_=>exact ⟨d,rfl⟩
   rw [hd] at hT
   obtain ⟨v,r,rfl,hv,hr'⟩:=hT.uncons
   have hr0:=hr'.length
   have:r=[]:=List.length_eq_zero_iff.mp hr0
   subst this
   refine h1 _ _ ?_
   walk_at "wp"
   exact ⟨_,SqL.of hys,v,rfl,q d v H' hd hv sm⟩
theorem word_int {m n:Nat} {w:Str} (h:numW m w=some n) (hm:m≤100):PySem.intText? w=some (n:Int)∧w.length≤640:=by
 obtain ⟨h1,h2⟩:=numW_lt h
 rw [← h2,numT_R n (by omega)]
 refine ⟨numR_int n (by omega),?_⟩
 rw [tx_length]
 unfold numR
 split <;> simp
theorem catT_gen {H:Hp} {a b:Addr} {xs ys:List V} {Q:VK} (ha:H a=some (.tup xs)) (hb:H b=some (.tup ys)) (hx:xs≠[]) (hz:xs.length + ys.length≤1000) (q:∀ p H',H' p=some (.tup (xs ++ ys))→Same H H'→Q (.ref p) H'):rCatT K (.ref a) (.ref b) H Q:=
 ⟨a,b,xs,ys,rfl,rfl,SqT.of ha,SqT.of hb,hx,line_le (by omega),fun e=>q a H (by rw [e,List.append_nil];exact ha) (Same.refl _),fun _ p hp=>q p _ upd_same (same_upd hp)⟩
abbrev s_l_tree:Stmt:=top 65
def sp_l_tree:Sp:=fun vs H Q _=>∃ (l lw:Addr) (ts:List Addr) (rs:List (Nat × RV)) (ws:List Str) (ns:List Nat),vs=[.ref l,.ref lw]∧RowsAt H l ts rs∧(∀ r∈rs,r.1 < 4)∧rs.length≤100∧H lw=some (.lst (ws.map V.str))∧ws.length≤10000 ∧
 ns.length=ws.length∧(∀ (j:Nat) w n,ws[j]?=some w→ns[j]?=some n→numW rs.length w=some n)∧fits (npar rs) ns∧(pileOf (npar rs) ns).length=1 ∧
 ∀ d v H',pileOf (npar rs) ns=[d]→TrAt H' d v→Same H H'→Q v H'
theorem sc_l_tree:FnScope ["_law_rules_here","_law_words","_law_built","_law_word","_law_parts_here","_law_tree_here"] ["_law_rules_here","_law_words"] (defScope s_l_tree):=⟨rfl,rfl,rfl,by decide +kernel,rfl,by decide +kernel,by decide +kernel⟩
theorem ok_l_tree {f:Addr} {fd:FuncData} (F:Fun K "_law_tree" "_law_tree" s_l_tree f fd) (nb:NB mg) (zqa:Cal P w K mg base CX0 1 "_law_parts" ["_law_told_here"] sp_l_parts):FnOk P w K mg base CX0 2 f fd ["_law_rules_here","_law_words"] sp_l_tree:=by
 have sc:=sc_l_tree
 refine F.ok sc (fun vs H Q E h=>?_) (fun cdv A outer s H vs Q E hr h=>?_)
 ·obtain ⟨l,lw,ts,rs,ws,ns,rfl,_⟩:=h;rfl
 ·obtain ⟨l,lw,ts,rs,ws,ns,rfl,hR,hk4,hn,hw,hwl,hnl,hnum,hfit,hone,q⟩:=h
  have hu:=hr.units
  refine ⟨_,(pss_cons (ps_set (i:=2) sc.nd rfl (Or.inr rfl) (pe_lst pa_nil))
   (pss_cons (ps_forw PassesOwn.never rfl (pi_rev rfl nb.reversed (pa_cons (pv 1) pa_nil)) (pg_name (i:=3) sc.nd rfl (Or.inl rfl))
   (pss_cons (ps_set (i:=4) sc.nd rfl (Or.inl rfl) (pe_callB call_lenL rfl nb.len bt_len (pa_cons (pe_cal zqa (hr.mono (by decide)) rfl pass0 (pa_cons (pe_ix ix_list (pv 0) (pe_callTy call_int_text rfl nb.int bt_int (pa_cons (pv 3) pa_nil)) (fun _ _=>rfl)) pa_nil)) pa_nil)))
   (pss_cons (ps_set (i:=5) sc.nd rfl (Or.inl rfl) (pe_op op_catT (pe_tup (pa_cons (pe_callTy call_int_text rfl nb.int bt_int (pa_cons (pv 3) pa_nil)) pa_nil)) (pe_callTy call_tuple_of rfl nb.tuple bt_tuple (pa_cons (pe_comp ["_law_k"] [2] rfl (CompOk.of (by kernel_rfl)) (by kernel_rfl) (pi_range1 rfl nb.range (pa_cons (pv 4) pa_nil))
    (fun _ _ _ _=>(pg_name (i:=0) (by show (["_law_k","_law_built"]:List Str).Nodup;decide +kernel) rfl (Or.inl rfl))) (fun _ _ _ _=>pif_nil) (fun _ _ _ _=>(pe_bm0K (K:=K) rfl PySem.F.plainAttrs_list PySem.F.slot_list_pop PySem.F.type_list_pop mt_pop (pv 1)))) pa_nil))))
   (pss_one (ps_expr (pe_bm PySem.F.plainAttrs_list PySem.F.slot_list_append PySem.F.type_list_append mt_append (pv 2) (pa_cons (pv 5) pa_nil)))))))
   (pss_one (ps_ret (pe_ix ix_list (pv 2) pe_int (fun _ _=>rfl)))))),?_⟩
  refine seq_cut fun N1 h1=>?_
  walk_at "wp"
  refine ⟨Nat.zero_le _,fun lb hlb=>h1 _ _ ?_⟩
  clear h1
  have s1:Same H (upd H lb (.lst [])):=same_upd hlb
  have e1:upd H lb (.lst []) lb=some (.lst []):=upd_same
  generalize upd H lb (.lst [])=H1 at s1 e1 ⊢
  refine seq_cut fun N1 h1=>?_
  walk_at "wp"
  refine ⟨_,SqL.of (s1 _ _ hw),?_⟩
  refine forw_rev (xs:=ws.map V.str) (fun i σ H'=>Same H H'∧(∃ ys,H' lb=some (.lst ys.reverse)∧TrAts H' (pileOf (npar rs) (ns.drop (ns.length - i))) ys)∧∃ x1 x2 x3,σ=[some (.ref l),some (.ref lw),some (.ref lb),x1,x2,x3]) ⟨s1,⟨[],e1,?_⟩,_,_,_,rfl⟩ ?_ ?_ ?_
  ·rw [Nat.sub_zero,List.drop_length];exact TrAts.nil
  ·rintro i σ H' _ ⟨sm,_⟩
   exact SqL.of (sm _ _ hw)
  ·rintro i x σ H2 hi hx ⟨sm,⟨ys,hys,hT⟩,x1,x2,x3,rfl⟩
   rw [List.length_map] at hi hx
   rw [List.getElem?_map,List.getElem?_eq_getElem (by omega)] at hx
   cases hx
   have hi':i < ns.length:=by omega
   have hwn:=hnum (ws.length - 1 - i) _ (ns[ns.length - 1 - i]'(by omega)) (List.getElem?_eq_getElem (by omega)) (by rw [← hnl];exact List.getElem?_eq_getElem (by omega))
   generalize ws[ws.length - 1 - i]'(by omega)=wd at hwn ⊢
   have hstep:=rev_step hi'
   have hfit2:=fits_drop (ns.length - (i + 1)) hfit
   rw [hstep] at hfit2
   have hPl:=pile_le (npar rs) (ns.drop (ns.length - i))
   rw [List.length_drop] at hPl
   rw [hstep]
   generalize ns[ns.length - 1 - i]'(by omega)=n at hfit2 hwn ⊢
   obtain ⟨_,hfn⟩:=hfit2
   rw [pileOf]
   generalize pileOf (npar rs) (ns.drop (ns.length - i))=PP at hT hfn hPl ⊢
   have hlt:=(numW_lt hwn).1
   obtain ⟨hint,hl6⟩:=word_int hwn hn
   obtain ⟨t,r,e5,e6,e7⟩:=(hR.up sm).got hlt
   have hnp:=npar_get e6
   have hfew:=npar_le rs n
   refine seq_cut fun N2 h2=>?_
   walk_at "wp"
   refine ⟨_,hint,hl6,_,SqL.of (hR.up sm).1,V.ref t,atI_nat (by rw [List.getElem?_map,e5];rfl),t,r,rfl,e7,hk4 r (List.mem_of_getElem? e6),fun l2 H3 hl2 hp2 s3=>?_⟩
   have hp2:H3 l2=some (.lst (rowsV (partsK r.1 r.2))):=hp2
   refine ⟨l2,rfl,_,SqL.of hp2,h2 _ _ ?_⟩
   clear h2
   rw [rowsV_length,← hnp]
   refine seq_cut fun N2 h2=>?_
   walk_at "wp"
   refine ⟨_,hint,hl6,line_le (by decide),fun p hp=>⟨by omega,by omega,?_⟩⟩
   have en:((npar rs n:Nat):Int).toNat=npar rs n:=by omega
   rw [en]
   have s4:Same H2 (upd H3 p (.tup [V.int (n:Int)])):=s3.trans (same_upd hp)
   have e4:upd H3 p (.tup [V.int (n:Int)]) p=some (.tup [V.int (n:Int)]):=upd_same
   generalize upd H3 p (.tup [V.int (n:Int)])=H4 at s4 e4 ⊢
   have sm4:=sm.trans s4
   refine comp_range (lo:=0) (n:=npar rs n) (fun j acc σ H'=>Same H H'∧TupS H4 H'∧TrAts H' (PP.take j) acc∧(∃ ys,H' lb=some (.lst ys.reverse)∧TrAts H' (PP.drop j) ys)∧j≤npar rs n∧∃ x,σ=[x,some (V.ref lb)]) ⟨sm4,fun _ _ h=>h,by rw [List.take_zero];exact TrAts.nil,⟨ys,s4 _ _ hys,by rw [List.drop_zero];exact hT.up (TupS.of s4) _⟩,Nat.zero_le _,_,rfl⟩ ?_ ?_ ?_ ?_
   ·rintro j acc σ H' ⟨_,_,h,_,hj,_⟩
    have:=h.length
    rw [List.length_take] at this
    exact line_big (by omega)
   ·rintro j acc σ H' ⟨_,_,_,_,hj,_⟩
    exact hj
   ·rintro j acc σ H' hj ⟨sm5,u5,hz,⟨ys,hw5,hy⟩,_,x,rfl⟩
    have hjP:j < PP.length:=by omega
    rw [List.drop_eq_getElem_cons hjP] at hy
    obtain ⟨v,ys',rfl,hv,hy'⟩:=hy.uncons
    obtain ⟨r1,r2⟩:=rev_last v ys'
    walk_at "wp"
    refine ⟨.inl ⟨rfl,_,SqL.of hw5⟩,_,hw5,_,r1,?_⟩
    rw [r2]
    have u1:TupS H' (upd H' lb (.lst ys'.reverse)):=TupS.put hw5
    refine ⟨same_upd2 sm5 hlb,u5.trans u1,?_,⟨ys',upd_same,hy'.up u1 _⟩,hj⟩
    rw [List.take_succ_eq_append_getElem hjP]
    exact (hz.up u1 _).app (TrAts.cons (hv.up u1 _) TrAts.nil)
   ·rintro acc σ H' ⟨sm5,u5,hz,⟨ys,hw5,hy⟩,_,x,rfl⟩ l3 hl3
    refine ⟨acc,.inl ⟨SqL.of upd_same,fun l4 hl4=>?_⟩⟩
    have s6:Same H' (upd (upd H' l3 (.lst acc)) l4 (.tup acc)):=(same_upd hl3).trans (same_upd hl4)
    have e6':upd (upd H' l3 (.lst acc)) l4 (.tup acc) l4=some (.tup acc):=upd_same
    generalize upd (upd H' l3 (.lst acc)) l4 (.tup acc)=H6 at s6 e6' ⊢
    have hal:=hz.length
    rw [List.length_take] at hal
    refine catT_gen (s6 _ _ (u5 _ _ e4)) e6' (by simp) (by simp;omega) fun p2 H7 h7 s7=>h2 _ _ ?_
    clear h2
    have s67:=s6.trans s7
    have u7:=TupS.of s67
    walk_at "wp"
    have hw7:=s67 _ _ hw5
    have hyl:=hy.length
    rw [List.length_drop] at hyl
    have u8:TupS H7 (upd H7 lb (.lst (ys.reverse ++ [V.ref p2]))):=TupS.put hw7
    refine ⟨.inl ⟨rfl,_,SqL.of hw7⟩,_,hw7,?_,same_upd2 (sm5.trans s67) hlb,V.ref p2 :: ys,by rw [upd_same,List.reverse_cons],TrAts.cons (TrAt.node (u8 _ _ h7) (hz.up (u7.trans u8) _)) (hy.up (u7.trans u8) _)⟩
    rw [List.length_reverse];exact line_big (by omega)
  ·rintro σ H' ⟨sm,⟨ys,hys,hT⟩,x1,x2,x3,rfl⟩
   rw [List.length_map,← hnl,Nat.sub_self,List.drop_zero] at hT
   obtain ⟨d,hd⟩:∃ d,pileOf (npar rs) ns=[d]:=by
    match pileOf (npar rs) ns,hone with
    | [d],_=>exact ⟨d,rfl⟩
   rw [hd] at hT
   obtain ⟨v,r,rfl,hv,hr'⟩:=hT.uncons
   have hr0:=hr'.length
   have:r=[]:=List.length_eq_zero_iff.mp hr0
   subst this
   refine h1 _ _ ?_
   walk_at "wp"
   exact ⟨_,SqL.of hys,v,rfl,q d v H' hd hv sm⟩
def wordsZ (z:List Nat):List Str:=(SpM.parts 32 z).map tx
theorem wordsZ_V (z:List Nat):rowsV (SpM.parts 32 z)=(wordsZ z).map V.str:=by unfold rowsV wordsZ;rw [List.map_map];rfl
theorem wordsZ_len {z:List Nat} (h:z.length≤9000):(wordsZ z).length≤10000∧∀ w∈wordsZ z,w.length≤100000:=by
 obtain ⟨h1,h2⟩:=SpM.parts_len 32 z
 unfold wordsZ
 refine ⟨by rw [List.length_map];omega,fun w hw=>?_⟩
 obtain ⟨r,hr,rfl⟩:=List.mem_map.mp hw
 rw [tx_length]
 have:=h1 r hr
 omega
theorem numW_succ {i:Nat} {w:Str} (hi:i < 100):numW (i + 1) w=if w=numT i then some i else numW i w:=by
 by_cases e:w=numT i
 ·rw [if_pos e,e,numT_R i hi]
  exact numW_some (Nat.lt_succ_self i) (by omega) rfl
 ·rw [if_neg e]
  unfold numW
  rw [List.range_succ,List.find?_append]
  have:List.find? (fun j=>decide (numT j=w)) [i]=none:=by
   rw [List.find?_eq_none]
   intro x hx
   rw [List.mem_singleton.mp hx]
   simpa using fun h=>e h.symm
  rw [this,Option.or_none]
theorem putK_len {κ:Type} [DecidableEq κ] (kvs:List (κ × V)) (k:κ) (v:V):(putK kvs k v).length≤kvs.length + 1:=by
 unfold putK
 split
 ·rw [List.length_map];omega
 ·rw [List.length_append];exact Nat.le_refl _
def WordX (CF:Addr) (H:Hp) (E:XK) (i:Nat):Prop:=∀ d H',H' d=some (.xd [("at",.int (i:Int))])→Same H H'→E (.ref CF) (some d) H'
abbrev s_read_tree:Stmt:=top 19
def sp_read_tree (R:RC) (C CF:Addr):Sp:=fun vs H Q E=>∃ (a dx:Addr) (sg st:List Nat) (as:List Addr) (rs:List (Nat × RV)) (z:List Nat),vs=[.ref a,.str (tx z)]∧GramF R H C dx a sg st as rs∧rs.length≤100∧z.length≤9000 ∧
 (∀ i,goW (npar rs) (numW rs.length) 0 (wordsZ z) [1]=.inl i→WordX CF H E i)∧∀ ns,goW (npar rs) (numW rs.length) 0 (wordsZ z) [1]=.inr ns→∀ d v H',pileOf (npar rs) ns=[d]→TrAt H' d v→Same H H'→Q v H'
theorem sc_read_tree:FnScope ["grammar","text","words","numbers_by_word","number","numbers","wanted","at","word","depth","part"] ["grammar","text"] (defScope s_read_tree):=⟨rfl,rfl,rfl,by decide +kernel,rfl,by decide +kernel,by decide +kernel⟩
theorem ok_read_tree {R:RC} {f C C_NoWord:Addr} {fd:FuncData} {t1 t2:Tok} (F:Fun K "read_tree" "read_tree" s_read_tree f fd) (nb:NB mg) (rk:RKit K R) (m_MOST_NUMBERS:mg "MOST_NUMBERS" = some (.int 200 t1)) (m_MOST_WITHIN:mg "MOST_WITHIN" = some (.int 60 t2)) (m_NoWord:mg "NoWord" = some (.ref C_NoWord)) (xi_NoWord:XI P w K mg base 1 C_NoWord "at")
  (cp_parts:CalP P w K mg base CX0 1 "parts" (oParts K R)) (cm_rule:CalM P w K mg base CX0 1 C "rule" ["self","k"] (sp_gram_rule R C)) (cm_many:CalM P w K mg base CX0 1 C "many" ["self"] (sp_gram_many R C)) (c_grown:Cal P w K mg base CX0 2 "grown" ["grammar","numbers"] (sp_grown R C)) :
  FnOk P w K mg base (CX1 P w) 4 f fd ["grammar","text"] (sp_read_tree R C C_NoWord):=by
 have sc:=sc_read_tree
 refine F.okX sc (fun vs H Q E h=>?_) (fun cdv A outer s H vs Q E hr h=>?_)
 ·obtain ⟨a,dx,sg,st,as,rs,z,rfl,_⟩:=h;rfl
 ·obtain ⟨a,dx,sg,st,as,rs,z,rfl,g,hn,hz,bad,good⟩:=h
  obtain ⟨lk,pn,t,ha,hk,hrs,hN,hm⟩:=id g
  have hu:=hr.units
  refine ⟨_,(pss_cons (ps_set (i:=2) sc.nd rfl (Or.inl rfl) (pe_bm PySem.F.plainAttrs_str PySem.F.slot_str_split PySem.F.type_str_split mt_splitL (pv 1) (pa_consS pa_nil)))
   (pss_cons (ps_set (i:=3) sc.nd rfl (Or.inl rfl) pe_dnewK)
   (pss_cons (ps_forw PassesOwn.leaving rfl (pi_range1 rfl nb.range (pa_cons (pe_calM0 cm_many (hr.mono (by decide)) pass0 (pv 0)) pa_nil)) (pg_name (i:=4) sc.nd rfl (Or.inl rfl))
   (pss_one (ps_dput (Nat.lt_of_le_of_lt (Nat.add_le_add_left (by decide:1≤64) _) hu) (pv 3) (pe_callTy call_str_int rfl nb.str bt_str (pa_cons (pv 4) pa_nil)) (pv 4) rfl)))
   (pss_cons (ps_set (i:=5) sc.nd rfl (Or.inl rfl) (pe_lst pa_nil))
   (pss_cons (ps_set (i:=6) sc.nd rfl (Or.inl rfl) (pe_lst (pa_consI pa_nil)))
   (pss_cons (ps_forw PassesOwn.leaving rfl (pi_enum rfl nb.enumerate (pa_cons (pv 2) pa_nil)) (pg_tup (n:=2) rfl (pgs_cons (pg_name (i:=7) sc.nd rfl (Or.inl rfl)) (pgs_cons (pg_name (i:=8) sc.nd rfl (Or.inl rfl)) pgs_nil)))
   (pss_cons (ps_if (PW.pt (pw_or (pt_cmpR (op_eqD hu) (pv 6) (pe_lst pa_nil) (nomark _)) (pw_or (pt_cmp (pc_dnotin (Nat.lt_of_le_of_lt (Nat.add_le_add_left (by decide:1≤64) _) hu) (pv 8) (pv 3)) (by with_unfolding_all rfl)) (pw_or1 (pt_cmpR op_ge (pv 7) (pe_glob (v:=.int 200) rfl m_MOST_NUMBERS ⟨_,rfl⟩) (nomark _))))))
   (pss_one (ps_raiseI xi_NoWord (hr.mono (by decide)) rfl rfl m_NoWord (makesI_up fun _ _ _ h=>h) (pa_cons (pv 7) pa_nil)))
   pss_nil)
   (pss_cons (ps_set (i:=9) sc.nd rfl (Or.inl rfl) (pe_bm0 PySem.F.plainAttrs_list PySem.F.slot_list_pop PySem.F.type_list_pop mt_pop (pv 6)))
   (pss_cons (ps_if (pt_cmpR op_gt (pv 9) (pe_glob (v:=.int 60) rfl m_MOST_WITHIN ⟨_,rfl⟩) (nomark _))
   (pss_one (ps_raiseI xi_NoWord (hr.mono (by decide)) rfl rfl m_NoWord (makesI_up fun _ _ _ h=>h) (pa_cons (pv 7) pa_nil)))
   pss_nil)
   (pss_cons (ps_expr (pe_bm PySem.F.plainAttrs_list PySem.F.slot_list_append PySem.F.type_list_append mt_append (pv 5) (pa_cons (pe_dget (Nat.lt_of_le_of_lt (Nat.add_le_add_left (by decide:1≤64) _) hu) (pv 3) (pv 8) (fun _ _=>rfl)) pa_nil)))
   (pss_one (ps_forw PassesOwn.leaving rfl (pi_list (pe_calP0 cp_parts (hr.mono (by decide)) pass0 (pe_calM cm_rule (hr.mono (by decide)) pass0 (pv 0) (pa_cons (pe_ix ix_list (pv 5) (pv 7) (fun _ _=>rfl)) pa_nil)))) (pg_name (i:=10) sc.nd rfl (Or.inl rfl))
   (pss_one (ps_expr (pe_bm PySem.F.plainAttrs_list PySem.F.slot_list_append PySem.F.type_list_append mt_append (pv 6) (pa_cons (pe_op op_add (pv 9) pe_int) pa_nil)))))))))))
   (pss_cons (ps_if (pt_cmpR (op_neD hu) (pv 6) (pe_lst pa_nil) (nomark _))
   (pss_one (ps_raiseI xi_NoWord (hr.mono (by decide)) rfl rfl m_NoWord (makesI_up fun _ _ _ h=>h) (pa_cons (pe_callB call_lenL rfl nb.len bt_len (pa_cons (pv 2) pa_nil)) pa_nil)))
   pss_nil)
   (pss_one (ps_ret (pe_cal (CX:=CX1 P w) c_grown.lift (hr.mono (by decide)) rfl passes_E0 (pa_cons (pv 0) (pa_cons (pv 5) pa_nil)))))))))))),?_⟩
  obtain ⟨hwl,hws⟩:=wordsZ_len hz
  have hwV:=wordsZ_V z
  refine seq_cut fun N1 h1=>?_
  walk_at "wp"
  refine ⟨rfl,z,rfl,32,rfl,by omega,fun p hp=>h1 _ _ ?_⟩
  clear h1
  have s1:Same H (upd H p (.lst (rowsV (SpM.parts 32 z)))):=same_upd hp
  have e1:upd H p (.lst (rowsV (SpM.parts 32 z))) p=some (.lst ((wordsZ z).map V.str)):=by rw [upd_same,hwV]
  show tSeq _ _ _ _ (upd H p (.lst (rowsV (SpM.parts 32 z))))
  generalize upd H p (.lst (rowsV (SpM.parts 32 z)))=H1 at s1 e1 ⊢
  generalize wordsZ z=ws at hwl hws bad good e1
  clear hwV
  refine seq_cut fun N1 h1=>?_
  walk_at "wp"
  refine fun dd hdd=>h1 _ _ ?_
  clear h1
  have s2:Same H (upd H1 dd (.dK [])):=s1.trans (same_upd hdd)
  have e2:upd H1 dd (.dK []) p=some (.lst (ws.map V.str)):=same_upd hdd _ _ e1
  have d2:upd H1 dd (.dK []) dd=some (.dK []):=upd_same
  have frd:H dd=none:=s1.free hdd
  have hpd:p≠dd:=fun e=>by rw [← e,e1] at hdd;cases hdd
  generalize upd H1 dd (.dK [])=H2 at s2 e2 d2 ⊢
  refine seq_cut fun N1 h1=>?_
  walk_at "wp"
  refine ⟨dx,_,s2 _ _ ha,rfl,a,dx,sg,st,as,rs,rfl,g.up s2,(rs.length:Int),rfl,by omega,by omega,?_⟩
  have en:((rs.length:Nat):Int).toNat=rs.length:=by omega
  rw [en]
  refine forw_range (lo:=0) (n:=rs.length) (fun i σ H'=>Same H H'∧H' p=some (.lst (ws.map V.str))∧(∃ kvs:List (Key × V),H' dd=some (.dK kvs)∧kvs.length≤i∧∀ w,valV kvs (.inr w)=(numW i w).map fun (n:Nat)=>V.int (n:Int))∧∃ x,σ=[some (V.ref a),some (V.str (tx z)),some (V.ref p),some (V.ref dd),x,none,none,none,none,none,none]) ⟨s2,e2,⟨[],d2,Nat.le_refl _,fun w=>rfl⟩,_,rfl⟩ ?_ ?_
  ·rintro i σ H' hi ⟨sm,hp',⟨kvs,hkv,hkl,hval⟩,x,rfl⟩
   walk_at "wp"
   refine ⟨num_log (by omega),_,DPut.k (k:=.inr (numT i)) hkv (line_big (by omega)),same_upd2 sm frd,by rw [upd_ne hpd];exact hp',_,upd_same,by have:=putK_len kvs (.inr (numT i)) (V.int (i:Int));omega,fun w=>?_⟩
   rw [valV_put,numW_succ (by omega)]
   by_cases e:w=numT i
   ·rw [if_pos (by rw [e]),if_pos e];rfl
   ·rw [if_neg (fun h=>e (Sum.inr.inj h)),if_neg e];exact hval w
  ·rintro σ H3 ⟨s3,hp3,⟨kvs,hkv,hkl,hval⟩,x,rfl⟩
   refine h1 _ _ ?_
   clear h1
   refine seq_cut fun N1 h1=>?_
   walk_at "wp"
   refine ⟨Nat.zero_le _,fun ln hln=>h1 _ _ ?_⟩
   clear h1
   have frn:H ln=none:=s3.free hln
   have s4:Same H3 (upd H3 ln (.lst [])):=same_upd hln
   have e4:upd H3 ln (.lst []) ln=some (.lst (numsV [])):=upd_same
   generalize upd H3 ln (.lst [])=H4 at s4 e4 ⊢
   refine seq_cut fun N1 h1=>?_
   walk_at "wp"
   refine ⟨line_le (by decide),fun lt hlt=>h1 _ _ ?_⟩
   clear h1
   have frt:H lt=none:=(s3.trans s4).free hlt
   have hnt:ln≠lt:=fun e=>by rw [← e,e4] at hlt;cases hlt
   have s5:Same H4 (upd H4 lt (.lst [V.int 1])):=same_upd hlt
   have e5:upd H4 lt (.lst [V.int 1]) lt=some (.lst (numsV [1])):=upd_same
   have n5:=s5 _ _ e4
   generalize upd H4 lt (.lst [V.int 1])=H5 at s5 e5 n5 ⊢
   have s35:=s4.trans s5
   have s05:=s3.trans s35
   have p5:=s35 _ _ hp3
   have k5:=s35 _ _ hkv
   have fpd:dd≠ln:=fun e=>by rw [← e,hkv] at hln;cases hln
   have fpt:dd≠lt:=fun e=>by rw [← e,s4 _ _ hkv] at hlt;cases hlt
   have ppn:p≠ln:=fun e=>by rw [← e,hp3] at hln;cases hln
   have ppt:p≠lt:=fun e=>by rw [← e,s4 _ _ hp3] at hlt;cases hlt
   refine seq_cut fun N1 h1=>?_
   walk_at "wp"
   refine ⟨_,SqL.of p5,?_⟩
   refine forw_enum (xs:=ws.map V.str) (fun i σ H'=>Same H H'∧(H' p=some (.lst (ws.map V.str))∧H' dd=some (.dK kvs))∧(∃ ns wt:List Nat,H' ln=some (.lst (numsV ns))∧H' lt=some (.lst (numsV wt))∧ns.length=i∧(∀ n∈ns,n < rs.length)∧goW (npar rs) (numW rs.length) 0 ws [1]=preW ns (goW (npar rs) (numW rs.length) i (ws.drop i) wt)∧wt.length≤1 + 2 * i)∧∃ x0 x1 x2 x3 x4,σ=[some (V.ref a),some (V.str (tx z)),some (V.ref p),some (V.ref dd),x0,some (V.ref ln),some (V.ref lt),x1,x2,x3,x4]) ⟨s05,⟨p5,k5⟩,⟨[],[1],n5,e5,rfl,(fun n hn=>nomatch hn),go_start ws,by decide⟩,_,_,_,_,_,rfl⟩ ?_ ?_ ?_
   ·rintro i σ H' _ ⟨_,⟨h,_⟩,_⟩
    exact SqL.of h
   ·rintro i x σ H6 T hx ⟨sm,⟨p6,k6⟩,⟨ns,wt,n6,t6,hnl,hns,hgo,hwl2⟩,x0,x1,x2,x3,x4,rfl⟩ hT
    have hlt':i < ws.length:=by have:=(List.getElem?_eq_some_iff.mp hx).1;rwa [List.length_map] at this
    rw [List.getElem?_map,List.getElem?_eq_getElem hlt'] at hx
    cases hx
    have hwi:ws[i]?=some ws[i]:=List.getElem?_eq_getElem hlt'
    have hwm:=hws _ (List.getElem_mem hlt')
    generalize ws[i]=wd at hwi hwm ⊢
    have s7:Same H6 (upd H6 T (.tup [.int (i:Int),.str wd])):=same_upd hT
    have e7:upd H6 T (.tup [.int (i:Int),.str wd]) T=some (.tup [.int (i:Int),.str wd]):=upd_same
    generalize upd H6 T (.tup [.int (i:Int),.str wd])=H7 at s7 e7 ⊢
    have badE:stepW (npar rs) (numW rs.length) i wd wt=none→∀ H',Same H H'→1≤sizeLine∧∀ d,H' d=none→E (.ref C_NoWord) (some d) (upd H' d (.xd [("at",.int (i:Int))])):=fun h H' sm'=>
     ⟨line_le (by decide),fun d hd=>bad i (go_bad hgo hwi h) d _ upd_same (sm'.trans (same_upd hd))⟩
    walk_at "wp"
    refine ⟨_,SqT.of e7,rfl,_,_,rfl,_,_,rfl,rfl,?_⟩
    refine ⟨Nat.zero_le _,fun p8 hp8=>?_⟩
    have s8:Same H7 (upd H7 p8 (.lst [])):=same_upd hp8
    have sm8:=(sm.trans s7).trans s8
    have s68:=s7.trans s8
    refine nil_eq (wt:=wt) (s8 _ _ (s7 _ _ t6)) upd_same ?_
    generalize upd H7 p8 (.lst [])=H8 at s8 sm8 s68 ⊢
    refine ⟨_,rfl,?_⟩
    have p8':=s68 _ _ p6;have k8:=s68 _ _ k6;have n8:=s68 _ _ n6;have t8:=s68 _ _ t6
    by_cases w0:wt=[]
    ·rw [if_pos (by rw [decide_eq_true w0];rfl)]
     exact badE (by rw [w0];unfold stepW;cases numW rs.length wd <;> rfl) _ sm8
    rw [if_neg (by rw [decide_eq_false w0];decide)]
    obtain ⟨d,hd⟩:∃ d,wt.getLast?=some d:=⟨_,List.getLast?_eq_some_getLast w0⟩
    obtain ⟨_,hlast,hdrop⟩:=numsV_last hd
    refine ⟨_,DGet.k (k:=.inr wd) k8,?_⟩
    rw [hval wd]
    cases hnum:numW rs.length wd with
    | none=>
     rw [if_pos (by rfl)]
     exact badE (by unfold stepW;rw [hnum]) _ sm8
    | some n=>
     rw [if_neg (by intro h;cases h)]
     refine ⟨(i:Int),rfl,?_⟩
     by_cases i2:200≤(i:Int)
     ·rw [if_pos i2]
      refine badE ?_ _ sm8
      unfold stepW
      rw [hd,hnum]
      simp only []
      rw [if_pos (.inl (by omega))]
     rw [if_neg i2]
     refine ⟨.inl ⟨rfl,_,SqL.of t8⟩,_,t8,_,hlast,(d:Int),rfl,?_⟩
     rw [hdrop]
     have s9:Same H (upd H8 lt (.lst (numsV wt.dropLast))):=same_upd2 sm8 frt
     have t9:upd H8 lt (.lst (numsV wt.dropLast)) lt=some (.lst (numsV wt.dropLast)):=upd_same
     have n9:upd H8 lt (.lst (numsV wt.dropLast)) ln=some (.lst (numsV ns)):=by rw [upd_ne hnt];exact n8
     have p9:upd H8 lt (.lst (numsV wt.dropLast)) p=some (.lst (ws.map V.str)):=by rw [upd_ne ppt];exact p8'
     have k9:upd H8 lt (.lst (numsV wt.dropLast)) dd=some (.dK kvs):=by rw [upd_ne fpt];exact k8
     generalize upd H8 lt (.lst (numsV wt.dropLast))=H9 at s9 t9 n9 p9 k9 ⊢
     by_cases d60:60 < (d:Int)
     ·rw [if_pos d60]
      refine badE ?_ _ s9
      unfold stepW
      rw [hd,hnum]
      simp only []
      rw [if_pos (.inr (by omega))]
     rw [if_neg d60]
     have hnlt:=(numW_lt hnum).1
     have hstep:stepW (npar rs) (numW rs.length) i wd wt=some (n,wt.dropLast ++ List.replicate (npar rs n) (d + 1)):=by
      unfold stepW
      rw [hnum,hd]
      simp only []
      rw [if_neg (by omega)]
     have hgo':=go_step hgo hwi hstep
     have gv:DGet H9 dd (V.str wd) (some (V.int (n:Int))):=by
      have:=DGet.k (k:=.inr wd) k9
      rw [hval wd,hnum] at this
      exact this
     refine ⟨.inl ⟨rfl,_,SqL.of n9⟩,_,gv,_,n9,by rw [numsV_len];exact line_big (by omega),?_⟩
     have en1:numsV ns ++ [V.int (n:Int)]=numsV (ns ++ [n]):=by rw [numsV_app];rfl
     rw [en1]
     have s10:Same H (upd H9 ln (.lst (numsV (ns ++ [n])))):=same_upd2 s9 frn
     have n10:upd H9 ln (.lst (numsV (ns ++ [n]))) ln=some (.lst (numsV (ns ++ [n]))):=upd_same
     have t10:upd H9 ln (.lst (numsV (ns ++ [n]))) lt=some (.lst (numsV wt.dropLast)):=by rw [upd_ne (Ne.symm hnt)];exact t9
     have p10:upd H9 ln (.lst (numsV (ns ++ [n]))) p=some (.lst (ws.map V.str)):=by rw [upd_ne ppn];exact p9
     have k10:upd H9 ln (.lst (numsV (ns ++ [n]))) dd=some (.dK kvs):=by rw [upd_ne fpd];exact k9
     generalize upd H9 ln (.lst (numsV (ns ++ [n])))=H10 at s10 n10 t10 p10 k10 ⊢
     have hlr:n < as.length:=by rw [hrs.1];exact hnlt
     have hb:as[n]?=some as[n]:=List.getElem?_eq_getElem hlr
     have hrn:rs[n]?=some rs[n]:=List.getElem?_eq_getElem hnlt
     have rr:=(hrs.2 n _ _ hb hrn).up s10
     generalize as[n]=b at hb rr
     have hnp:=npar_get hrn
     have hfew:=npar_le rs n
     generalize rs[n]=r at hrn rr hnp
     refine ⟨dx,_,s10 _ _ ha,rfl,_,(i:Int),rfl,SqL.of n10,V.int (n:Int),atI_nat (numsV_get (by rw [← hnl];exact List.getElem?_concat_length)),a,dx,sg,st,as,rs,n,b,rfl,g.up s10,hb,?_⟩
     refine parts_do rk rr ?_
     intro l2 H11 hl2 hp2 s11
     have hp2:H11 l2=some (.lst (rowsV (partsK r.1 r.2))):=hp2
     refine ⟨l2,rfl,⟨_,SqL.of hp2⟩,?_⟩
     have hll:l2≠lt:=fun e=>by rw [e,t10] at hl2;cases hl2
     refine forw_list (xs:=rowsV (partsK r.1 r.2)) (fun j σ H'=>Same H H'∧(H' l2=some (.lst (rowsV (partsK r.1 r.2)))∧H' p=some (.lst (ws.map V.str))∧H' dd=some (.dK kvs)∧H' ln=some (.lst (numsV (ns ++ [n]))))∧H' lt=some (.lst (numsV (wt.dropLast ++ List.replicate j (d + 1))))∧j≤npar rs n∧∃ y,σ=[some (V.ref a),some (V.str (tx z)),some (V.ref p),some (V.ref dd),x0,some (V.ref ln),some (V.ref lt),some (V.int i),some (V.str wd),some (V.int d),y]) ⟨s10.trans s11,⟨hp2,s11 _ _ p10,s11 _ _ k10,s11 _ _ n10⟩,by rw [List.replicate_zero,List.append_nil];exact s11 _ _ t10,Nat.zero_le _,_,rfl⟩ ?_ ?_ ?_
     ·rintro j σ H' _ ⟨_,⟨h,_⟩,_⟩
      exact SqL.of h
     ·rintro j x σ H' hx ⟨sm6,⟨h2,hp',hk',hn'⟩,hw6,hj,y,rfl⟩
      have hj2:j < npar rs n:=by have:=(List.getElem?_eq_some_iff.mp hx).1;rw [rowsV_length] at this;omega
      walk_at "wp"
      refine ⟨.inl ⟨rfl,_,SqL.of hw6⟩,_,hw6,?_,same_upd2 sm6 frt,by rw [upd_ne hll];exact h2,by rw [upd_ne ppt];exact hp',by rw [upd_ne fpt];exact hk',by rw [upd_ne hnt];exact hn',?_,hj2⟩
      ·rw [numsV_len,List.length_append,List.length_dropLast,List.length_replicate];exact line_big (by omega)
      ·rw [upd_same,rep_cons,← List.append_assoc,numsV_app (wt.dropLast ++ List.replicate j (d + 1))];rfl
     ·rintro σ H' ⟨sm6,⟨h2,hp',hk',hn'⟩,hw6,hj,y,rfl⟩
      rw [rowsV_length,← hnp] at hw6
      refine ⟨sm6,hp',hk',⟨_,hn',_,hw6,by rw [List.length_append,hnl];rfl,fun m hm=>?_,hgo',?_⟩,_,_,_,_,_,rfl⟩
      ·rcases List.mem_append.mp hm with h | h
       ·exact hns m h
       ·rw [List.mem_singleton.mp h];exact hnlt
      ·rw [List.length_append,List.length_dropLast,List.length_replicate]
       omega
   ·rintro σ H' ⟨sm,⟨p6,k6⟩,⟨ns,wt,n6,t6,hnl,hns,hgo,hwl2⟩,x0,x1,x2,x3,x4,rfl⟩
    rw [List.length_map] at hgo
    refine h1 _ _ ?_
    clear h1
    walk_at "wp"
    refine ⟨Nat.zero_le _,fun p8 hp8=>?_⟩
    refine nil_eq (wt:=wt) (same_upd hp8 _ _ t6) upd_same ?_
    refine ⟨_,rfl,?_⟩
    have ge:=go_end hgo
    have s8:Same H' (upd H' p8 (.lst [])):=same_upd hp8
    generalize upd H' p8 (.lst [])=H8 at s8 ⊢
    by_cases w0:wt=[]
    ·rw [if_neg (by rw [decide_eq_true w0];decide)]
     have hg:=ge.1 w0
     obtain ⟨g1,g2,g3,g4,g5⟩:=go_good _ _ _ _ hg
     exact ⟨a,dx,ln,sg,st,as,rs,ns,rfl,g.up (sm.trans s8),s8 _ _ n6,hns,g3,g4,by omega,fun d v H' h1 h2 h3=>good ns hg d v H' h1 h2 ((sm.trans s8).trans h3)⟩
    ·rw [if_pos (by rw [decide_eq_false w0];rfl)]
     refine ⟨_,SqL.of (s8 _ _ p6),line_le (by decide),fun d hd=>?_⟩
     rw [List.length_map]
     exact bad _ (ge.2 w0) d _ upd_same ((sm.trans s8).trans (same_upd hd))
abbrev s_l_grammar:Stmt:=top 56
def sp_l_grammar (R:RC) (CG:Addr):Sp:=fun vs H Q _=>∃ (l b:Addr) (p:Pic) (sg st:List Nat) (ts:List Addr) (rs:List (Nat × RV)),vs=[.ref l,.ref b,.str (tx sg)]∧RowsAt H l ts rs∧(∀ r∈rs,GoodR r)∧rs.length≤24∧H b=some (.lst (rowsV p))∧p[0]?=some st∧sg.length≤100∧st.length≤100∧gFault sg st rs=none∧∀ b db as H',GramF R H' CG db b sg st as rs→Same H H'→Q (.ref b) H'
theorem sc_l_grammar:FnScope ["_law_rules_here","_law_names_here","_law_signs_here"] ["_law_rules_here","_law_names_here","_law_signs_here"] (defScope s_l_grammar):=⟨rfl,rfl,rfl,by decide +kernel,rfl,by decide +kernel,by decide +kernel⟩
theorem ok_l_grammar {R:RC} {f CG zaa:Addr} {fd:FuncData} (F:Fun K "_law_grammar" "_law_grammar" s_l_grammar f fd) (nb:NB mg) (gk:GNA K CG) (zib:Cal P w K mg base CX0 6 "_law_rule_made" ["_law_told_here"] (sp_l_rule R)) (zhc:CalK P w K mg base (CX1 P w) 4 "Grammar" CG ["self","signs","start","rules"] (sp_gram_init K R zaa)):FnOk P w K mg base CX0 7 f fd ["_law_rules_here","_law_names_here","_law_signs_here"] (sp_l_grammar R CG):=by
 have sc:=sc_l_grammar
 refine F.ok sc (fun vs H Q E h=>?_) (fun cdv A outer s H vs Q E hr h=>?_)
 ·obtain ⟨l,b,p,sg,st,ts,rs,rfl,_⟩:=h;rfl
 ·obtain ⟨l,b,p,sg,st,ts,rs,rfl,o,hg,hn,hb,hp0,hsg,hst,g0,q⟩:=h
  refine ⟨_,(pss_one (ps_ret (pe_calK (CX:=CX1 P w) zhc (hr.mono (by decide)) rfl passes_E0 (pa_cons (pv 2) (pa_cons (pe_ix ix_list (pv 1) pe_int (fun _ _=>rfl)) (pa_cons (pe_comp ["_law_told_here"] [] rfl (CompOk.of (by kernel_rfl)) (by kernel_rfl) (pi_list (pv 0))
    (fun _ _ _ _=>(pg_name (i:=0) (by show (["_law_told_here"]:List Str).Nodup;decide +kernel) rfl (Or.inl rfl))) (fun _ _ _ _=>pif_nil) (fun _ _ _ _=>(pe_cal zib (hr.mono (by decide)) rfl pass0 (pa_cons (pv 0) pa_nil)))) pa_nil)))))),?_⟩
  walk_at "wp"
  have h0:atI (rowsV p) 0=some (V.str (tx st)):=(show atI _ ((0:Nat):Int)=_ from atI_nat (by unfold rowsV;rw [List.getElem?_map,hp0];rfl))
  refine ⟨_,SqL.of hb,_,h0,⟨_,SqL.of o.1⟩,rules_comp o hg (by omega) fun as H2 s2 hA lr hlr x dx hx hdx hne=>?_⟩
  have s3:Same H2 (upd H2 lr (.lst (as.map V.ref))):=same_upd hlr
  have e3:upd H2 lr (.lst (as.map V.ref)) lr=some (.lst (as.map V.ref)):=upd_same
  generalize upd H2 lr (.lst (as.map V.ref))=H3 at s3 e3 hx hdx ⊢
  have sm4:Same H3 (upd (upd H3 dx (.own x)) x (.ins CG dx [])):=(same_upd hdx).trans (same_upd (by rw [upd_ne (Ne.symm hne)];exact hx))
  refine ⟨x,CG,dx,lr,sg,st,as,rs,rfl,upd_same,gk.cl.cl,gk.na,by omega,by omega,sm4 _ _ e3,(hA.up s3).up sm4,fun r hr=>(hg r hr).k4,by omega,(fun _ H4 lk pn t sx gA _ _ _=>⟨rfl,?_⟩),fun y hy=>nomatch hy.symm.trans g0⟩
  exact q x dx _ H4 gA.f ((s2.trans s3).trans fun b u e=>sx b u (ne_of_none e hx) (sm4 b u e))
abbrev s_l_at_of:Stmt:=top 66
def CaughtN (H:Hp) (e C:Addr) (i:Nat):Prop:=∃ d,H e=some (xo e (.ref C) (some d))∧H d=some (.xd [("at",.int (i:Int))])
def sp_l_at_of (C:Addr):Sp:=fun vs H Q _=>∃ (e:Addr) (i:Nat),vs=[.ref e]∧CaughtN H e C i∧∀ H',Same H H'→Q (.int (i:Int)) H'
theorem sc_l_at_of:FnScope ["_law_error"] ["_law_error"] (defScope s_l_at_of):=⟨rfl,rfl,rfl,by decide +kernel,rfl,by decide +kernel,by decide +kernel⟩
theorem ok_l_at_of {f C_NoPicture zNa zaa C_NoName C_NoNumber C_NoRow zea C_NoText C_NoTree C_NoWord C_TooMany:Addr} {fd:FuncData} (F:Fun K "_law_at_of" "_law_at_of" s_l_at_of f fd) (nb:NB mg) (m_NoPicture:mg "NoPicture" = some (.ref C_NoPicture)) (zef:mg "NoFit" = some (.ref zNa)) (zja:mg "NoGrammar" = some (.ref zaa)) (m_NoName:mg "NoName" = some (.ref C_NoName)) (m_NoNumber:mg "NoNumber" = some (.ref C_NoNumber)) (m_NoRow:mg "NoRow" = some (.ref C_NoRow)) (zta:mg "NoRule" = some (.ref zea)) (m_NoText:mg "NoText" = some (.ref C_NoText)) (m_NoTree:mg "NoTree" = some (.ref C_NoTree)) (m_NoWord:mg "NoWord" = some (.ref C_NoWord)) (m_TooMany:mg "TooMany" = some (.ref C_TooMany))
  (xt:W.XTy K C_NoWord) (xh:W.hasDictIn K C_NoWord=true) (xw:NoAttr K C_NoWord "at") (k0:W.kitOne K (.ref C_NoWord) (.ref C_NoWord)=some true) (k1:W.kitOne K (.ref C_NoWord) (.type "ValueError")=some true)
  (k2:W.kitAny K (.ref C_NoWord) [.ref zNa,.ref zaa,.ref C_NoName,.ref C_NoNumber,.ref C_NoPicture,.ref C_NoRow,.ref zea,.ref C_NoText,.ref C_NoTree,.ref C_TooMany]=some false)
  (zPc:Cal P w K mg base CX0 1 "_law_whole" ["_law_found"] sp_l_whole):FnOk P w K mg base CX0 2 f fd ["_law_error"] (sp_l_at_of C_NoWord):=by
 have sc:=sc_l_at_of
 refine F.ok sc (fun vs H Q E h=>?_) (fun cdv A outer s H vs Q E hr h=>?_)
 ·obtain ⟨e,i,rfl,_⟩:=h;rfl
 ·obtain ⟨e,i,rfl,⟨d,he,hd⟩,q⟩:=h
  refine ⟨_,(pss_cons (ps_if (PW.pt (pw_or (pt_not (pt_tb (pe_callB call_isinstanceY rfl nb.isinstance bt_isinstance (pa_cons (pv 0) (pa_cons (pe_glob (v:=.ref _) rfl m_NoWord rfl) pa_nil))) fun _=>rfl)) (pw_or (pt_not (pt_tb (pe_callB call_isinstanceY rfl nb.isinstance bt_isinstance (pa_cons (pv 0) (pa_cons (pe_bltn (v:=.ty "ValueError") rfl nb.ValueError bt_ValueError rfl) pa_nil))) fun _=>rfl)) (pw_or1 (pt_not (pt_tb (pe_cal zPc (hr.mono (by decide)) rfl pass0 (pa_cons (pe_xfld (pv 0) rfl) pa_nil)) fun _=>rfl))))))
   (pss_one (ps_ret pe_non))
   pss_nil)
   (pss_cons (ps_if (pt_tb (pe_callB call_isinstanceY rfl nb.isinstance bt_isinstance (pa_cons (pv 0) (pa_cons (pe_tup (pa_cons (pe_glob (v:=.ref _) rfl zef rfl) (pa_cons (pe_glob (v:=.ref _) rfl zja rfl) (pa_cons (pe_glob (v:=.ref _) rfl m_NoName rfl) (pa_cons (pe_glob (v:=.ref _) rfl m_NoNumber rfl) (pa_cons (pe_glob (v:=.ref _) rfl m_NoPicture rfl) (pa_cons (pe_glob (v:=.ref _) rfl m_NoRow rfl) (pa_cons (pe_glob (v:=.ref _) rfl zta rfl) (pa_cons (pe_glob (v:=.ref _) rfl m_NoText rfl) (pa_cons (pe_glob (v:=.ref _) rfl m_NoTree rfl) (pa_cons (pe_glob (v:=.ref _) rfl m_TooMany rfl) pa_nil))))))))))) pa_nil))) fun _=>rfl)
   (pss_one (ps_ret pe_non))
   pss_nil)
   (pss_one (ps_ret (pe_xfld (pv 0) rfl))))),?_⟩
  walk_at "wp"
  have xr:XRd H e C_NoWord:=.inr ⟨d,_,he,hd⟩
  refine .inr (.inl ⟨e,C_NoWord,_,true,rfl,rfl,xr,xt,k0,true,rfl,?_⟩)
  rw [if_neg (by decide)]
  refine .inr (.inl ⟨e,C_NoWord,_,true,rfl,rfl,xr,xt,k1,true,rfl,?_⟩)
  rw [if_neg (by decide)]
  refine ⟨C_NoWord,d,he,_,hd,V.int (i:Int),rfl,xt,xh,xw,(i:Int),rfl,true,rfl,?_⟩
  rw [if_neg (by decide)]
  refine ⟨line_le (by decide),fun p hp=>?_⟩
  have m1:Same H (upd H p (.tup [V.ref zNa,V.ref zaa,V.ref C_NoName,V.ref C_NoNumber,V.ref C_NoPicture,V.ref C_NoRow,V.ref zea,V.ref C_NoText,V.ref C_NoTree,V.ref C_TooMany])):=same_upd hp
  have e1:upd H p (.tup [V.ref zNa,V.ref zaa,V.ref C_NoName,V.ref C_NoNumber,V.ref C_NoPicture,V.ref C_NoRow,V.ref zea,V.ref C_NoText,V.ref C_NoTree,V.ref C_TooMany]) p=some (.tup [V.ref zNa,V.ref zaa,V.ref C_NoName,V.ref C_NoNumber,V.ref C_NoPicture,V.ref C_NoRow,V.ref zea,V.ref C_NoText,V.ref C_NoTree,V.ref C_TooMany]):=upd_same
  generalize upd H p (.tup [V.ref zNa,V.ref zaa,V.ref C_NoName,V.ref C_NoNumber,V.ref C_NoPicture,V.ref C_NoRow,V.ref zea,V.ref C_NoText,V.ref C_NoTree,V.ref C_TooMany])=H1 at m1 e1 ⊢
  have he1:=m1 _ _ he
  have hd1:=m1 _ _ hd
  refine .inr (.inr ⟨e,C_NoWord,p,_,false,rfl,e1,by simp [isClsV],.inr ⟨d,_,he1,hd1⟩,xt,k2,false,rfl,?_⟩)
  rw [if_neg (by decide)]
  exact ⟨C_NoWord,d,he1,_,hd1,V.int (i:Int),rfl,xt,xh,xw,q _ m1⟩
abbrev s_l_told:Stmt:=top 67
def sp_l_told (R:RC) (C:Addr):Sp:=fun vs H Q _=>∃ (a dx:Addr) (sg st:List Nat) (as:List Addr) (rs:List (Nat × RV)) (z:List Nat) (r:Nat ⊕ List Nat) (tv:V),vs=[.ref a,.str (tx z),dueV r,tv]∧GramF R H C dx a sg st as rs∧rs.length≤100∧z.length≤9000 ∧
 r=goW (npar rs) (numW rs.length) 0 (wordsZ z) [1]∧(∀ ns,r=.inr ns→∃ d,pileOf (npar rs) ns=[d]∧TrAt H d tv)∧∀ H',Same H H'→Q (.bl true) H'
theorem sc_l_told:FnScope ["_law_grammar_here","_law_text","_law_due_here","_law_tree_here","_law_found","_law_error","e"] ["_law_grammar_here","_law_text","_law_due_here","_law_tree_here"] (defScope s_l_told):=⟨rfl,rfl,rfl,by decide +kernel,rfl,by decide +kernel,by decide +kernel⟩
theorem ok_l_told {R:RC} {f C C_QuiltError C_NoWord:Addr} {fd:FuncData} {bmD bmT:List Value} {nD nT:String} (F:Fun K "_law_told" "_law_told" s_l_told f fd) (nb:NB mg)
  (m_QuiltError:mg "QuiltError" = some (.ref C_QuiltError)) (xc_QuiltError:XCls K C_QuiltError bmD nD) (hbase:bmD.contains (.type "BaseException")=true) (xo_NoWord:XOut K C_NoWord bmT nT) (un1:Under K C_NoWord C_QuiltError)
  (c_read_tree:Cal P w K mg base (CX1 P w) 4 "read_tree" ["grammar","text"] (sp_read_tree R C C_NoWord)) (zQc:Cal P w K mg base CX0 2 "_law_at_of" ["_law_error"] (sp_l_at_of C_NoWord)):FnOk P w K mg base CX0 5 f fd ["_law_grammar_here","_law_text","_law_due_here","_law_tree_here"] (sp_l_told R C):=by
 have sc:=sc_l_told
 refine F.ok sc (fun vs H Q E h=>?_) (fun cdv A outer s H vs Q E hr h=>?_)
 ·obtain ⟨a,dx,sg,st,as,rs,z,r,tv,rfl,_⟩:=h;rfl
 ·obtain ⟨a,dx,sg,st,as,rs,z,r,tv,rfl,g,hn,hz,hgo,htv,q⟩:=h
  have hu:=hr.units
  have hu2:=hr.units210
  refine ⟨_,(pss_cons (ps_set (i:=4) sc.nd rfl (Or.inl rfl) pe_non)
   (pss_cons (ps_set (i:=5) sc.nd rfl (Or.inl rfl) pe_non)
   (pss_cons (ps_try_asO (i:=6) sc.nd rfl rfl (px_cal c_read_tree (hr.mono (by decide)) rfl (pa_cons (pv 0) (pa_cons (pv 1) pa_nil))) (pg_name (i:=4) sc.nd rfl (Or.inl rfl)) rfl rfl rfl m_QuiltError xc_QuiltError hbase (fun ea=>(pss_one (ps_set (i:=5) sc.nd rfl (Or.inl rfl) (pv 6)))))
   (pss_cons (ps_if (pt_cmpR op_isN (pv 2) pe_non (nomark _))
   (pss_one (ps_ret (pe_and (pe_cmpR op_isN (pv 5) pe_non (nomark _)) (pe_and (pe_callB call_isinstanceY rfl nb.isinstance bt_isinstance (pa_cons (pv 4) (pa_cons (pe_bltn (v:=.ty "tuple") rfl nb.tuple bt_tuple rfl) pa_nil))) (pe_one (pe_cmpR (op_eqT hu2) (pv 4) (pv 3) (nomark _)))))))
   pss_nil)
   (pss_one (ps_ret (pe_and (pe_cmpR op_notN (pv 5) pe_non (nomark _)) (pe_one (pe_cmpR op_eq (pe_cal zQc (hr.mono (by decide)) rfl pass0 (pa_cons (pv 5) pa_nil)) (pv 2) (nomark _)))))))))),?_⟩
  refine seq_cut fun N1 h1=>?_
  walk_at "wp"
  refine h1 _ _ ?_
  clear h1
  refine seq_cut fun N1 h1=>?_
  walk_at "wp"
  refine h1 _ _ ?_
  clear h1
  refine seq_cut fun N1 h1=>?_
  walk_at "wp"
  refine ⟨a,dx,sg,st,as,rs,z,rfl,g,hn,hz,fun i hi d H' hd sm=>⟨C_NoWord,rfl,_,_,xo_NoWord,un1,fun ea hea=>h1 _ _ ?_⟩,fun ns hns d v H' hp ht sm=>h1 _ _ ?_⟩
  ·rw [← hgo] at hi
   subst hi
   have s2:Same H' (upd H' ea (xo ea (.ref C_NoWord) (some d))):=same_upd hea
   have e2:upd H' ea (xo ea (.ref C_NoWord) (some d)) ea=some (xo ea (.ref C_NoWord) (some d)):=upd_same
   generalize upd H' ea (xo ea (.ref C_NoWord) (some d))=H2 at s2 e2 ⊢
   have hd2:=s2 _ _ hd
   show tSeq _ _ _ [some (V.ref a),some (V.str (tx z)),some (V.int (i:Int)),some tv,some V.non,some (V.ref ea),none] H2
   walk_at "wp"
   rw [if_pos (fun h=>h)]
   refine ⟨ea,i,rfl,⟨d,e2,hd2⟩,fun H3 s3=>⟨by simp [scal],?_⟩⟩
   rw [decide_eq_true rfl]
   exact q H3 ((sm.trans s2).trans s3)
  ·rw [← hgo] at hns
   subst hns
   obtain ⟨d2,hp2,ht2⟩:=htv ns rfl
   rw [hp] at hp2
   cases hp2
   show tSeq _ _ _ [some (V.ref a),some (V.str (tx z)),some V.non,some tv,some v,some V.non,none] H'
   walk_at "wp"
   obtain ⟨g1,g2,g3,g4,g5⟩:=go_good _ _ _ _ hgo.symm
   have hne:ns≠[]:=fun e=>by rw [e] at hp;cases hp
   obtain ⟨n,ns',rfl⟩:∃ n ns',ns=n :: ns':=by
    cases ns with
    | nil=>exact absurd rfl hne
    | cons n ns'=>exact ⟨n,ns',rfl⟩
   have hl2:(n :: ns').length≤200:=by
    rcases g5 with h | h
    ·exact absurd h hne
    ·omega
   have hdp:=pile_deps (npar rs) (n :: ns')
   rw [hp] at hdp
   have hd0:d=.tup (.int (n:Int) :: (pileOf (npar rs) ns').take (npar rs n)):=by
    rw [pileOf] at hp
    exact (List.cons.inj hp).1.symm
   generalize (Dt.int (n:Int) :: (pileOf (npar rs) ns').take (npar rs n))=ds at hd0
   subst hd0
   have hdd:Dt.deps ds≤200:=by
    rw [Dt.deps,Dt.dep] at hdp
    omega
   have ht':=ht
   unfold TrAt at ht'
   obtain ⟨aa,xs,rfl,hxs,_⟩:=ht'
   refine .inl ⟨_,_,_,_,rfl,rfl,TyOf.tup hxs,kit_same K _,true,rfl,?_⟩
   rw [if_pos rfl]
   exact ⟨ds,hdd,TrAt.rd _ ht,TrAt.rd _ (ht2.up (TupS.of sm) _),q H' sm⟩
abbrev s_winit:Stmt:=meth 9 0
theorem sc_winit:FnScope ["self","at"] ["self","at"] (defScope s_winit):=⟨rfl,rfl,rfl,by decide +kernel,rfl,by decide +kernel,by decide +kernel⟩
theorem ok_winit {f C:Addr} {fd:FuncData} (F:Fun K "__init__" "NoWord.__init__" s_winit f fd) (xs:W.XSt K C "at"):FnOk P w K mg base CX0 1 f fd ["self","at"] (sp_init C "at"):=by
 have sc:=sc_winit
 refine F.ok sc (fun vs H Q E h=>?_) (fun cdv A outer s H vs Q E hr h=>?_)
 ·obtain ⟨a,v,rfl,_⟩:=h;rfl
 ·obtain ⟨a,v,rfl,ha,q⟩:=h
  refine ⟨_,(pss_one (ps_xset (pv 0) (pv 1) rfl)),?_⟩
  walk_at "wp"
  exact ⟨C,ha,xs,fun d hd=>q d hd⟩
theorem join_sp {ys:List Str} (h3:∀ y∈ys,y.length≤3):∃ z,Txt.join (Str.ofString " ") ys=tx z∧z.length≤ys.length * 4:=by
 have e:(Txt.join (Str.ofString " ") ys).cps.toList=SpM.glue 32 (ys.map fun y=>y.cps.toList):=SpM.join_glue 32 ys
 refine ⟨SpM.glue 32 (ys.map fun y=>y.cps.toList),?_,?_⟩
 ·rw [← e];unfold tx;rw [Array.toArray_toList]
 ·have:=SpM.glue_len 32 (rows:=ys.map fun y=>y.cps.toList) (n:=3) (fun r hr=>by
   obtain ⟨y,hy,rfl⟩:=List.mem_map.mp hr
   exact h3 y hy)
  rw [List.length_map] at this
  exact this
theorem sum_le3:∀ {ys:List Str},(∀ y∈ys,y.length≤3)→(ys.map (fun x=>x.length)).sum≤3 * ys.length
 | [],_=>Nat.le_refl _
 | y :: ys,h=>by
  have h1:=h y List.mem_cons_self
  have h2:=sum_le3 (ys:=ys) fun z hz=>h z (List.mem_cons_of_mem _ hz)
  rw [List.map_cons,List.sum_cons,List.length_cons]
  omega
abbrev s_law:Stmt:=top 68
def sp_law (K:W.Frag):Sp:=fun vs H Q _=>∃ (a:Addr) (ns:List Int),vs=[.ref a]∧SqL K H a (ns.map V.int)∧∀ H',Q (.bl true) H'
theorem sc_law:FnScope ["_law_script","_law_names_here","_law_signs_here","_law_rules_here","_law_numbers","_law_words","_law_k","_law_text","_law_due_here","_law_tree_here","_law_grammar_here"] ["_law_script"] (defScope s_law):=⟨rfl,rfl,rfl,by decide +kernel,rfl,by decide +kernel,by decide +kernel⟩
theorem ok_law {R:RC} {f CG:Addr} {fd:FuncData} (F:Fun K "law" "law" s_law f fd) (nb:NB mg)
  (zka:Cal P w K mg base CX0 1 "_law_cell" ["_law_script","_law_k"] (sp_l_cell K)) (zRc:Cal P w K mg base CX0 1 "_law_names" ["_law_cell_here"] sp_l_names) (zSc:Cal P w K mg base CX0 1 "_law_signs" ["_law_cell_here","_law_most"] sp_l_signs) (zTc:Cal P w K mg base CX0 2 "_law_rules" ["_law_script","_law_names_here","_law_signs_here"] (sp_l_rules K)) (zEd:Cal P w K mg base CX0 3 "_law_base" ["_law_script","_law_rules_here","_law_cell_here"] (sp_l_base K)) (zcb:Cal P w K mg base CX0 3 "_law_made_whole" ["_law_rules_here","_law_words"] sp_l_made_whole)
  (zic:Cal P w K mg base CX0 1 "_law_spoilt" ["_law_words","_law_cell_here","_law_many"] sp_l_spoilt) (zff:Cal P w K mg base CX0 2 "_law_due" ["_law_rules_here","_law_words"] sp_l_due) (zFd:Cal P w K mg base CX0 2 "_law_tree" ["_law_rules_here","_law_words"] sp_l_tree) (zJb:Cal P w K mg base CX0 7 "_law_grammar" ["_law_rules_here","_law_names_here","_law_signs_here"] (sp_l_grammar R CG)) (zjc:Cal P w K mg base CX0 5 "_law_told" ["_law_grammar_here","_law_text","_law_due_here","_law_tree_here"] (sp_l_told R CG)):FnOk P w K mg base CX0 8 f fd ["_law_script"] (sp_law K):=by
 have sc:=sc_law
 refine F.ok sc (fun vs H Q E h=>?_) (fun cdv A outer s H vs Q E hr h=>?_)
 ·obtain ⟨a,ns,rfl,_⟩:=h;rfl
 ·obtain ⟨a,ns,rfl,hS,q⟩:=h
  refine ⟨_,(pss_cons (ps_set (i:=1) sc.nd rfl (Or.inl rfl) (pe_cal zRc (hr.mono (by decide)) rfl pass0 (pa_cons (pe_cal zka (hr.mono (by decide)) rfl pass0 (pa_cons (pv 0) (pa_consI pa_nil))) pa_nil)))
   (pss_cons (ps_set (i:=2) sc.nd rfl (Or.inl rfl) (pe_cal zSc (hr.mono (by decide)) rfl pass0 (pa_cons (pe_cal zka (hr.mono (by decide)) rfl pass0 (pa_cons (pv 0) (pa_consI pa_nil))) (pa_consI pa_nil))))
   (pss_cons (ps_set (i:=3) sc.nd rfl (Or.inl rfl) (pe_cal zTc (hr.mono (by decide)) rfl pass0 (pa_cons (pv 0) (pa_cons (pv 1) (pa_cons (pv 2) pa_nil)))))
   (pss_cons (ps_set (i:=4) sc.nd rfl (Or.inl rfl) (pe_cal zEd (hr.mono (by decide)) rfl pass0 (pa_cons (pv 0) (pa_cons (pv 3) (pa_cons (pe_cal zka (hr.mono (by decide)) rfl pass0 (pa_cons (pv 0) (pa_consI pa_nil))) pa_nil)))))
   (pss_cons (ps_if (pt_cmpR op_gt (pe_op op_mod (pe_cal zka (hr.mono (by decide)) rfl pass0 (pa_cons (pv 0) (pa_consI pa_nil))) pe_int) pe_int (nomark _))
   (pss_one (ps_set (i:=4) sc.nd rfl (Or.inl rfl) (pe_cal zcb (hr.mono (by decide)) rfl pass0 (pa_cons (pv 3) (pa_cons (pv 4) pa_nil)))))
   pss_nil)
   (pss_cons (ps_setcomp (i:=5) ["_law_number"] [] sc.nd rfl (Or.inl rfl) rfl  rfl (CompOk.of (by kernel_rfl)) (by kernel_rfl) (pi_list (pv 4))
    (fun _ _ _ _=>(pg_name (i:=0) (by show (["_law_number"]:List Str).Nodup;decide +kernel) rfl (Or.inl rfl))) (fun _ _ _ _=>pif_nil) (fun _ _ _ _=>(pe_callTy call_str_int rfl nb.str bt_str (pa_cons (pv 0) pa_nil))))
   (pss_cons (ps_forw PassesOwn.never rfl (pi_range1 rfl nb.range (pa_consI pa_nil)) (pg_name (i:=6) sc.nd rfl (Or.inl rfl))
   (pss_one (ps_set (i:=5) sc.nd rfl (Or.inl rfl) (pe_cal zic (hr.mono (by decide)) rfl pass0 (pa_cons (pv 5) (pa_cons (pe_cal zka (hr.mono (by decide)) rfl pass0 (pa_cons (pv 0) (pa_cons (pe_op op_add pe_int (pv 6)) pa_nil))) (pa_cons (pe_callB call_lenL rfl nb.len bt_len (pa_cons (pv 3) pa_nil)) pa_nil)))))))
   (pss_cons (ps_set (i:=7) sc.nd rfl (Or.inl rfl) (pe_bm PySem.F.plainAttrs_str PySem.F.slot_str_join PySem.F.type_str_join mt_join pe_str (pa_cons (pv 5) pa_nil)))
   (pss_cons (ps_set (i:=5) sc.nd rfl (Or.inl rfl) (pe_bm PySem.F.plainAttrs_str PySem.F.slot_str_split PySem.F.type_str_split mt_splitL (pv 7) (pa_consS pa_nil)))
   (pss_cons (ps_set (i:=8) sc.nd rfl (Or.inl rfl) (pe_cal zff (hr.mono (by decide)) rfl pass0 (pa_cons (pv 3) (pa_cons (pv 5) pa_nil))))
   (pss_cons (ps_set (i:=9) sc.nd rfl (Or.inl rfl) pe_non)
   (pss_cons (ps_if (pt_cmpR op_isN (pv 8) pe_non (nomark _))
   (pss_one (ps_set (i:=9) sc.nd rfl (Or.inl rfl) (pe_cal zFd (hr.mono (by decide)) rfl pass0 (pa_cons (pv 3) (pa_cons (pv 5) pa_nil)))))
   pss_nil)
   (pss_cons (ps_set (i:=10) sc.nd rfl (Or.inl rfl) (pe_cal zJb (hr.mono (by decide)) rfl pass0 (pa_cons (pv 3) (pa_cons (pv 1) (pa_cons (pv 2) pa_nil)))))
   (pss_one (ps_ret (pe_and (pe_cal zjc (hr.mono (by decide)) rfl pass0 (pa_cons (pv 10) (pa_cons (pv 7) (pa_cons (pv 8) (pa_cons (pv 9) pa_nil))))) (pe_one (pe_cal zjc (hr.mono (by decide)) rfl pass0 (pa_cons (pv 10) (pa_cons (pv 7) (pa_cons (pv 8) (pa_cons (pv 9) pa_nil)))))))))))))))))))))),?_⟩
  refine seq_cut fun N1 h1=>?_
  walk_at "wp"
  refine ⟨a,ns,0,rfl,hS,by decide,fun c0=>⟨c0,rfl,fun b p H1 hb hb1 hp hpn s1=>h1 _ _ ?_⟩⟩
  clear h1
  refine seq_cut fun N1 h1=>?_
  walk_at "wp"
  refine ⟨a,ns,1,rfl,s1.seq hS,by decide,fun c1=>⟨c1,rfl,fun sg H2 hsg s2=>h1 _ _ ?_⟩⟩
  clear h1
  have s02:=s1.trans s2
  refine seq_cut fun N1 h1=>?_
  walk_at "wp"
  refine ⟨a,b,ns,p,sg,rfl,s02.seq hS,s2 _ _ hb1,hp,hpn,hsg,fun l ts rs H3 hR hro hn24 hall hl3 s3=>h1 _ _ ?_⟩
  clear h1
  have s03:=s02.trans s3
  have b3:=s3 _ _ (s2 _ _ hb1)
  have hk4:∀ r∈rs,r.1 < 4:=fun r hr=>(hro r hr).good.k4
  refine seq_cut fun N1 h1=>?_
  walk_at "wp"
  refine ⟨a,ns,4,rfl,s03.seq hS,by decide,fun c4=>⟨a,l,ns,ts,rs,c4,rfl,s03.seq hS,hR,hk4,by omega,hall,fun l2 ms H4 h4 hms hml s4=>h1 _ _ ?_⟩⟩
  clear h1
  have s34:=s4
  refine seq_cut fun N1 h1=>?_
  have next:∀ l2 (ms:List Nat) H5,H5 l2=some (.lst (numsV ms))→(∀ n∈ms,n < rs.length)→ms.length≤700→Same H3 H5→N1 [some (V.ref a),some (V.ref b),some (V.str (tx sg)),some (V.ref l),some (V.ref l2),none,none,none,none,none,none] H5:=by
   intro l2 ms H5 h5 hms hml s35
   refine h1 _ _ ?_
   clear h1
   refine seq_cut fun N1 h1=>?_
   walk_at "wp"
   refine ⟨⟨_,SqL.of h5⟩,?_⟩
   refine comp_listF (as:=ms) (emb:=fun (n:Nat)=>V.int (n:Int)) (f:=fun n=>some (V.str (numT n))) (fun σ=>∃ x,σ=[x]) ⟨_,rfl⟩ (fun H' sm=>SqL.of (sm _ _ h5)) (by omega) ?_ ?_
   ·rintro i n hn' σ H' N1 N0 ⟨x,rfl⟩ sm k1 k0
    walk_at "wp"
    exact ⟨num_log (by have:=hms n (List.mem_of_getElem? hn');omega),k1 _ _ _ rfl sm ⟨_,rfl⟩⟩
   ·intro H6 sm6 lq hlq
    have e6:ms.filterMap (fun n=>some (V.str (numT n)))=(ms.map numT).map V.str:=by rw [fm_some,List.map_map];rfl
    rw [e6]
    refine h1 _ _ ?_
    clear h1
    have s36:Same H3 (upd H6 lq (.lst ((ms.map numT).map V.str))):=(s35.trans sm6).trans (same_upd hlq)
    have e7:upd H6 lq (.lst ((ms.map numT).map V.str)) lq=some (.lst ((ms.map numT).map V.str)):=upd_same
    have y3:∀ y∈ms.map numT,y.length≤3:=fun y hy=>by
     obtain ⟨n,hn',rfl⟩:=List.mem_map.mp hy
     exact numT_len n (by have:=hms n hn';omega)
    have yl:(ms.map numT).length≤700:=by rw [List.length_map];exact hml
    generalize upd H6 lq (.lst ((ms.map numT).map V.str))=H7 at s36 e7 ⊢
    generalize ms.map numT=ys at e7 y3 yl
    refine seq_cut fun N1 h1=>?_
    walk_at "wp"
    refine ⟨by decide,?_⟩
    refine forw_range (lo:=0) (n:=2) (fun i σ H'=>Same H3 H'∧∃ (lq:Addr) (ys:List Str) (x:Option V),H' lq=some (.lst (ys.map V.str))∧(∀ y∈ys,y.length≤3)∧ys.length≤700 + i∧σ=[some (V.ref a),some (V.ref b),some (V.str (tx sg)),some (V.ref l),some (V.ref l2),some (V.ref lq),x,none,none,none,none]) ⟨s36,lq,ys,_,e7,y3,by omega,rfl⟩ ?_ ?_
    ·rintro i σ H' hi ⟨sm,lq,ys,x,hlq,y3,yl,rfl⟩
     walk_at "wp"
     have hts:((ts.map V.ref).length:Int)=(rs.length:Int):=by rw [List.length_map,hR.2.1]
     have hpos:1≤rs.length:=by
      obtain ⟨r,hr',_⟩:=hall 0 (by decide)
      exact List.length_pos_of_mem hr'
     refine ⟨a,ns,6 + i,by simp,(s03.trans sm).seq hS,by omega,fun c6=>⟨_,SqL.of (hR.up sm).1,?_⟩⟩
     rw [hts]
     exact ⟨lq,c6,rs.length,ys,rfl,hpos,by omega,hlq,by omega,y3,fun l9 zs H9 h9 hz1 hz3 s9=>⟨sm.trans s9,l9,zs,h9,hz3,by omega,rfl⟩⟩
    ·rintro σ H' ⟨sm,lq,ys,x,hlq,y3,yl,rfl⟩
     refine h1 _ _ ?_
     clear h1
     refine seq_cut fun N1 h1=>?_
     walk_at "wp"
     obtain ⟨z,ez,zl⟩:=join_sp y3
     have sum3:(ys.map (fun x=>x.length)).sum≤3 * ys.length:=sum_le3 y3
     refine ⟨rfl,ys,.inl (SqL.of hlq),?_,?_⟩
     ·rw [show (Str.ofString " ").length=1 from rfl];omega
     rw [ez]
     refine h1 _ _ ?_
     clear h1
     have hz9:z.length≤9000:=by omega
     obtain ⟨wl,wm⟩:=wordsZ_len hz9
     have wV:=wordsZ_V z
     refine seq_cut fun N1 h1=>?_
     walk_at "wp"
     refine ⟨rfl,z,rfl,32,rfl,by omega,fun p9 hp9=>h1 _ _ ?_⟩
     clear h1
     have s9:Same H3 (upd H' p9 (.lst (rowsV (SpM.parts 32 z)))):=sm.trans (same_upd hp9)
     have e9:upd H' p9 (.lst (rowsV (SpM.parts 32 z))) p9=some (.lst ((wordsZ z).map V.str)):=by rw [upd_same,wV]
     show tSeq _ _ _ _ (upd H' p9 (.lst (rowsV (SpM.parts 32 z))))
     generalize upd H' p9 (.lst (rowsV (SpM.parts 32 z)))=H9 at s9 e9 ⊢
     refine seq_cut fun N1 h1=>?_
     walk_at "wp"
     refine ⟨l,p9,ts,rs,wordsZ z,rfl,hR.up s9,hk4,by omega,e9,wl,wm,fun H10 s10=>h1 _ _ ?_⟩
     clear h1
     have s310:=s9.trans s10
     have e10:=s10 _ _ e9
     generalize hgo:goW (npar rs) (numW rs.length) 0 (wordsZ z) [1]=r
     refine seq_cut fun N1 h1=>?_
     walk_at "wp"
     refine h1 _ _ ?_
     clear h1
     refine seq_cut fun N1 h1=>?_
     have next2:∀ tv H11,Same H3 H11→(∀ ns,r=.inr ns→∃ d,pileOf (npar rs) ns=[d]∧TrAt H11 d tv)→N1 [some (V.ref a),some (V.ref b),some (V.str (tx sg)),some (V.ref l),some (V.ref l2),some (V.ref p9),x,some (V.str (tx z)),some (dueV r),some tv,none] H11:=by
      intro tv H11 s11 htv
      refine h1 _ _ ?_
      clear h1
      refine seq_cut fun N1 h1=>?_
      walk_at "wp"
      have gr0:gFault sg (p[0]'(by omega)) rs=none:=rows_make hsg (List.getElem_mem _) hpn (by omega) hn24 hro
      have hst:=nameB_len (hpn _ (List.getElem_mem (show 0 < p.length by omega)))
      have hsl:=signsB_len hsg
      refine ⟨l,b,p,sg,_,ts,rs,rfl,hR.up s11,fun r hr=>(hro r hr).good,hn24,s11 _ _ b3,List.getElem?_eq_getElem (by omega),by omega,by omega,gr0,fun ga gd as H12 g12 s12=>h1 _ _ ?_⟩
      clear h1
      walk_at "wp"
      refine ⟨ga,gd,sg,_,as,rs,z,r,tv,rfl,g12,by omega,hz9,hgo.symm,(fun ns' hns=>by obtain ⟨d,h1,h2⟩:=htv ns' hns;exact ⟨d,h1,h2.up (TupS.of s12) _⟩),fun H13 s13=>⟨true,rfl,?_⟩⟩
      rw [if_pos rfl]
      exact ⟨ga,gd,sg,_,as,rs,z,r,tv,rfl,g12.up s13,by omega,hz9,hgo.symm,(fun ns' hns=>by obtain ⟨d,h1,h2⟩:=htv ns' hns;exact ⟨d,h1,h2.up (TupS.of (s12.trans s13)) _⟩),fun H14 s14=>q H14⟩
     walk_at "wp"
     cases hr0:r with
     | inl i=>
      rw [hr0] at next2
      rw [if_neg (fun h=>nomatch h)]
      exact next2 V.non H10 s310 fun ns' h=>nomatch h
     | inr ms'=>
      rw [hr0] at next2 hgo
      rw [if_pos (show dueV (Sum.inr ms')=V.non from rfl)]
      obtain ⟨g1,g2,g3,g4,g5⟩:=go_good _ _ _ _ hgo
      exact ⟨l,p9,ts,rs,wordsZ z,ms',rfl,hR.up s310,hk4,by omega,e10,wl,g1,g2,g3,g4,fun d v H11 h1' h2 s11=>next2 v H11 (s310.trans s11) fun ns' h=>by cases h;exact ⟨d,h1',h2⟩⟩
  walk_at "wp"
  refine ⟨a,ns,5,rfl,(s03.trans s4).seq hS,by decide,fun c5=>⟨c5,rfl,?_⟩⟩
  split
  ·exact ⟨l,l2,ts,rs,ms,rfl,hR.up s4,hk4,by omega,hall,h4,hms,hml,fun l5 ms5 H5 h5 hms5 hml5 s5=>next l5 ms5 H5 h5 hms5 hml5 (s4.trans s5)⟩
  ·exact next l2 ms H4 h4 hms (by omega) s4
end
end Q18
set_option Elab.async false
set_option linter.all false
set_option maxRecDepth 100000
namespace Q18
open PySem L2 Pic QL
theorem all_mk {l:W.OpenLaw} {w:World} {K:W.Frag} {h:Heap} {mg:Str→Option Value} {fa f1 f2 f3 f4 f5 f6 f7 f8 f9 f10 f11 f12 f13 f14 f15 f16 f17 f18 f19 f20 f21 f22 f23 f24 f25 f26 f27:Addr} (X:K.In h) (G:h.Ns mainGlobals mg) (hfa:mg "law" = some (.ref fa))
  {od1 an1 od2 an2 od3 an3 od4 an4 od5 an5 od6 an6 od7 an7 od8 an8 od9 an9 od10 an10 od11 an11 od12 an12 od13 an13 od14 an14 od15 an15 od16 an16 od17 an17 od18 an18 od19 an19 od20 an20 od21 an21 od22 an22 od23 an23 od24 an24 od25 an25 od26 an26 od27 an27:Option Addr} {sl1 sl2 sl3 sl4 sl5 sl6 sl7 sl8 sl9 sl10 sl11 sl12 sl13 sl14 sl15 sl16 sl17 sl18 sl19 sl20 sl21 sl22 sl23 sl24 sl25 sl26 sl27:Array (Option Value)} {oc1 kV1 dc1 pm1 cd1 ct1 oc2 kV2 dc2 pm2 cd2 ct2 oc3 kV3 dc3 pm3 cd3 ct3 oc4 kV4 dc4 pm4 cd4 ct4 oc5 kV5 dc5 pm5 cd5 ct5 oc6 kV6 dc6 pm6 cd6 ct6 oc7 kV7 dc7 pm7 cd7 ct7 oc8 kV8 dc8 pm8 cd8 ct8 oc9 kV9 dc9 pm9 cd9 ct9 oc10 kV10 dc10 pm10 cd10 ct10 oc11 kV11 dc11 pm11 cd11 ct11 oc12 kV12 dc12 pm12 cd12 ct12 oc13 kV13 dc13 pm13 cd13 ct13 oc14 kV14 dc14 pm14 cd14 ct14 oc15 kV15 dc15 pm15 cd15 ct15 oc16 kV16 dc16 pm16 cd16 ct16 oc17 kV17 dc17 pm17 cd17 ct17 oc18 kV18 dc18 pm18 cd18 ct18 oc19 kV19 dc19 pm19 cd19 ct19 oc20 kV20 dc20 pm20 cd20 ct20 oc21 kV21 dc21 pm21 cd21 ct21 oc22 kV22 dc22 pm22 cd22 ct22 oc23 kV23 dc23 pm23 cd23 ct23 oc24 kV24 dc24 pm24 cd24 ct24 oc25 kV25 dc25 pm25 cd25 ct25 oc26 kV26 dc26 pm26 cd26 ct26 oc27 kV27 dc27 pm27 cd27 ct27:Value}
  (a1:W.nsIn K mainGlobals "only_of" = some (some (.ref f1))) (l1:K.lookup f1=some ⟨oc1,od1,.func (W.fnOf "only_of" "only_of" (defArgs s_only_of) (defBody s_only_of) (defScope s_only_of) .none kV1 dc1 pm1 an1 cd1 ct1),sl1⟩) (c1:W.codeIn K cd1 "only_of" = true) (k1:W.keepIn K (.ref f1)=true)
  (a2:W.nsIn K mainGlobals "is_name" = some (some (.ref f2))) (l2:K.lookup f2=some ⟨oc2,od2,.func (W.fnOf "is_name" "is_name" (defArgs s_is_name) (defBody s_is_name) (defScope s_is_name) .none kV2 dc2 pm2 an2 cd2 ct2),sl2⟩) (c2:W.codeIn K cd2 "is_name" = true) (k2:W.keepIn K (.ref f2)=true)
  (a3:W.nsIn K mainGlobals "are_signs" = some (some (.ref f3))) (l3:K.lookup f3=some ⟨oc3,od3,.func (W.fnOf "are_signs" "are_signs" (defArgs s_are_signs) (defBody s_are_signs) (defScope s_are_signs) .none kV3 dc3 pm3 an3 cd3 ct3),sl3⟩) (c3:W.codeIn K cd3 "are_signs" = true) (k3:W.keepIn K (.ref f3)=true)
  (a4:W.nsIn K mainGlobals "check_made_of" = some (some (.ref f4))) (l4:K.lookup f4=some ⟨oc4,od4,.func (W.fnOf "check_made_of" "check_made_of" (defArgs s_check_made_of) (defBody s_check_made_of) (defScope s_check_made_of) .none kV4 dc4 pm4 an4 cd4 ct4),sl4⟩) (c4:W.codeIn K cd4 "check_made_of" = true) (k4:W.keepIn K (.ref f4)=true)
  (a5:W.nsIn K mainGlobals "numbers_by_name" = some (some (.ref f5))) (l5:K.lookup f5=some ⟨oc5,od5,.func (W.fnOf "numbers_by_name" "numbers_by_name" (defArgs s_numbers_by_name) (defBody s_numbers_by_name) (defScope s_numbers_by_name) .none kV5 dc5 pm5 an5 cd5 ct5),sl5⟩) (c5:W.codeIn K cd5 "numbers_by_name" = true) (k5:W.keepIn K (.ref f5)=true)
  (a6:W.nsIn K mainGlobals "_law_cell" = some (some (.ref f6))) (l6:K.lookup f6=some ⟨oc6,od6,.func (W.fnOf "_law_cell" "_law_cell" (defArgs s_l_cell) (defBody s_l_cell) (defScope s_l_cell) .none kV6 dc6 pm6 an6 cd6 ct6),sl6⟩) (c6:W.codeIn K cd6 "_law_cell" = true) (k6:W.keepIn K (.ref f6)=true)
  (a7:W.nsIn K mainGlobals "_law_whole" = some (some (.ref f7))) (l7:K.lookup f7=some ⟨oc7,od7,.func (W.fnOf "_law_whole" "_law_whole" (defArgs s_l_whole) (defBody s_l_whole) (defScope s_l_whole) .none kV7 dc7 pm7 an7 cd7 ct7),sl7⟩) (c7:W.codeIn K cd7 "_law_whole" = true) (k7:W.keepIn K (.ref f7)=true)
  (a8:W.nsIn K mainGlobals "_law_signs" = some (some (.ref f8))) (l8:K.lookup f8=some ⟨oc8,od8,.func (W.fnOf "_law_signs" "_law_signs" (defArgs s_l_signs) (defBody s_l_signs) (defScope s_l_signs) .none kV8 dc8 pm8 an8 cd8 ct8),sl8⟩) (c8:W.codeIn K cd8 "_law_signs" = true) (k8:W.keepIn K (.ref f8)=true)
  (a9:W.nsIn K mainGlobals "_law_names" = some (some (.ref f9))) (l9:K.lookup f9=some ⟨oc9,od9,.func (W.fnOf "_law_names" "_law_names" (defArgs s_l_names) (defBody s_l_names) (defScope s_l_names) .none kV9 dc9 pm9 an9 cd9 ct9),sl9⟩) (c9:W.codeIn K cd9 "_law_names" = true) (k9:W.keepIn K (.ref f9)=true)
  (a10:W.nsIn K mainGlobals "_law_rule_made" = some (some (.ref f10))) (l10:K.lookup f10=some ⟨oc10,od10,.func (W.fnOf "_law_rule_made" "_law_rule_made" (defArgs s_l_rule) (defBody s_l_rule) (defScope s_l_rule) .none kV10 dc10 pm10 an10 cd10 ct10),sl10⟩) (c10:W.codeIn K cd10 "_law_rule_made" = true) (k10:W.keepIn K (.ref f10)=true)
  (a11:W.nsIn K mainGlobals "_law_parts" = some (some (.ref f11))) (l11:K.lookup f11=some ⟨oc11,od11,.func (W.fnOf "_law_parts" "_law_parts" (defArgs s_l_parts) (defBody s_l_parts) (defScope s_l_parts) .none kV11 dc11 pm11 an11 cd11 ct11),sl11⟩) (c11:W.codeIn K cd11 "_law_parts" = true) (k11:W.keepIn K (.ref f11)=true)
  (a12:W.nsIn K mainGlobals "_law_drawn_rule" = some (some (.ref f12))) (l12:K.lookup f12=some ⟨oc12,od12,.func (W.fnOf "_law_drawn_rule" "_law_drawn_rule" (defArgs s_l_drawn_rule) (defBody s_l_drawn_rule) (defScope s_l_drawn_rule) .none kV12 dc12 pm12 an12 cd12 ct12),sl12⟩) (c12:W.codeIn K cd12 "_law_drawn_rule" = true) (k12:W.keepIn K (.ref f12)=true)
  (a13:W.nsIn K mainGlobals "_law_rules" = some (some (.ref f13))) (l13:K.lookup f13=some ⟨oc13,od13,.func (W.fnOf "_law_rules" "_law_rules" (defArgs s_l_rules) (defBody s_l_rules) (defScope s_l_rules) .none kV13 dc13 pm13 an13 cd13 ct13),sl13⟩) (c13:W.codeIn K cd13 "_law_rules" = true) (k13:W.keepIn K (.ref f13)=true)
  (a14:W.nsIn K mainGlobals "_law_numbers_of" = some (some (.ref f14))) (l14:K.lookup f14=some ⟨oc14,od14,.func (W.fnOf "_law_numbers_of" "_law_numbers_of" (defArgs s_l_numbers_of) (defBody s_l_numbers_of) (defScope s_l_numbers_of) .none kV14 dc14 pm14 an14 cd14 ct14),sl14⟩) (c14:W.codeIn K cd14 "_law_numbers_of" = true) (k14:W.keepIn K (.ref f14)=true)
  (a15:W.nsIn K mainGlobals "_law_full" = some (some (.ref f15))) (l15:K.lookup f15=some ⟨oc15,od15,.func (W.fnOf "_law_full" "_law_full" (defArgs s_l_full) (defBody s_l_full) (defScope s_l_full) .none kV15 dc15 pm15 an15 cd15 ct15),sl15⟩) (c15:W.codeIn K cd15 "_law_full" = true) (k15:W.keepIn K (.ref f15)=true)
  (a16:W.nsIn K mainGlobals "_law_base" = some (some (.ref f16))) (l16:K.lookup f16=some ⟨oc16,od16,.func (W.fnOf "_law_base" "_law_base" (defArgs s_l_base) (defBody s_l_base) (defScope s_l_base) .none kV16 dc16 pm16 an16 cd16 ct16),sl16⟩) (c16:W.codeIn K cd16 "_law_base" = true) (k16:W.keepIn K (.ref f16)=true)
  (a17:W.nsIn K mainGlobals "_law_made_whole" = some (some (.ref f17))) (l17:K.lookup f17=some ⟨oc17,od17,.func (W.fnOf "_law_made_whole" "_law_made_whole" (defArgs s_l_made_whole) (defBody s_l_made_whole) (defScope s_l_made_whole) .none kV17 dc17 pm17 an17 cd17 ct17),sl17⟩) (c17:W.codeIn K cd17 "_law_made_whole" = true) (k17:W.keepIn K (.ref f17)=true)
  (a18:W.nsIn K mainGlobals "_law_spoilt" = some (some (.ref f18))) (l18:K.lookup f18=some ⟨oc18,od18,.func (W.fnOf "_law_spoilt" "_law_spoilt" (defArgs s_l_spoilt) (defBody s_l_spoilt) (defScope s_l_spoilt) .none kV18 dc18 pm18 an18 cd18 ct18),sl18⟩) (c18:W.codeIn K cd18 "_law_spoilt" = true) (k18:W.keepIn K (.ref f18)=true)
  (a19:W.nsIn K mainGlobals "_law_number_of" = some (some (.ref f19))) (l19:K.lookup f19=some ⟨oc19,od19,.func (W.fnOf "_law_number_of" "_law_number_of" (defArgs s_l_number_of) (defBody s_l_number_of) (defScope s_l_number_of) .none kV19 dc19 pm19 an19 cd19 ct19),sl19⟩) (c19:W.codeIn K cd19 "_law_number_of" = true) (k19:W.keepIn K (.ref f19)=true)
  (a20:W.nsIn K mainGlobals "_law_due" = some (some (.ref f20))) (l20:K.lookup f20=some ⟨oc20,od20,.func (W.fnOf "_law_due" "_law_due" (defArgs s_l_due) (defBody s_l_due) (defScope s_l_due) .none kV20 dc20 pm20 an20 cd20 ct20),sl20⟩) (c20:W.codeIn K cd20 "_law_due" = true) (k20:W.keepIn K (.ref f20)=true)
  (a21:W.nsIn K mainGlobals "_law_tree" = some (some (.ref f21))) (l21:K.lookup f21=some ⟨oc21,od21,.func (W.fnOf "_law_tree" "_law_tree" (defArgs s_l_tree) (defBody s_l_tree) (defScope s_l_tree) .none kV21 dc21 pm21 an21 cd21 ct21),sl21⟩) (c21:W.codeIn K cd21 "_law_tree" = true) (k21:W.keepIn K (.ref f21)=true)
  (a22:W.nsIn K mainGlobals "grown" = some (some (.ref f22))) (l22:K.lookup f22=some ⟨oc22,od22,.func (W.fnOf "grown" "grown" (defArgs s_grown) (defBody s_grown) (defScope s_grown) .none kV22 dc22 pm22 an22 cd22 ct22),sl22⟩) (c22:W.codeIn K cd22 "grown" = true) (k22:W.keepIn K (.ref f22)=true)
  (a23:W.nsIn K mainGlobals "read_tree" = some (some (.ref f23))) (l23:K.lookup f23=some ⟨oc23,od23,.func (W.fnOf "read_tree" "read_tree" (defArgs s_read_tree) (defBody s_read_tree) (defScope s_read_tree) .none kV23 dc23 pm23 an23 cd23 ct23),sl23⟩) (c23:W.codeIn K cd23 "read_tree" = true) (k23:W.keepIn K (.ref f23)=true)
  (a24:W.nsIn K mainGlobals "_law_grammar" = some (some (.ref f24))) (l24:K.lookup f24=some ⟨oc24,od24,.func (W.fnOf "_law_grammar" "_law_grammar" (defArgs s_l_grammar) (defBody s_l_grammar) (defScope s_l_grammar) .none kV24 dc24 pm24 an24 cd24 ct24),sl24⟩) (c24:W.codeIn K cd24 "_law_grammar" = true) (k24:W.keepIn K (.ref f24)=true)
  (a25:W.nsIn K mainGlobals "_law_at_of" = some (some (.ref f25))) (l25:K.lookup f25=some ⟨oc25,od25,.func (W.fnOf "_law_at_of" "_law_at_of" (defArgs s_l_at_of) (defBody s_l_at_of) (defScope s_l_at_of) .none kV25 dc25 pm25 an25 cd25 ct25),sl25⟩) (c25:W.codeIn K cd25 "_law_at_of" = true) (k25:W.keepIn K (.ref f25)=true)
  (a26:W.nsIn K mainGlobals "_law_told" = some (some (.ref f26))) (l26:K.lookup f26=some ⟨oc26,od26,.func (W.fnOf "_law_told" "_law_told" (defArgs s_l_told) (defBody s_l_told) (defScope s_l_told) .none kV26 dc26 pm26 an26 cd26 ct26),sl26⟩) (c26:W.codeIn K cd26 "_law_told" = true) (k26:W.keepIn K (.ref f26)=true)
  (a27:W.nsIn K mainGlobals "law" = some (some (.ref f27))) (l27:K.lookup f27=some ⟨oc27,od27,.func (W.fnOf "law" "law" (defArgs s_law) (defBody s_law) (defScope s_law) .none kV27 dc27 pm27 an27 cd27 ct27),sl27⟩) (c27:W.codeIn K cd27 "law" = true) (k27:W.keepIn K (.ref f27)=true)
  {C_QuiltError zea zaa zOa C_Rule zAa zga zra zba zma zca zoa zfa zsa zla zia zBa zva zza zCa zda zua zDa zFa zGa zEa zHa C_NoWord fINoWord zNa C_NoName C_NoNumber C_NoPicture C_NoRow C_NoText C_NoTree C_TooMany:Addr} {tkCAPITALS tkSMALLS tkLONGEST_NAME tkMOST_SIGNS tkMOST_RULES tkMOST_NAMES tkMOST_NUMBERS tkMOST_WITHIN:Tok} {ddQuiltError ddNoRule ddNoGrammar odINoGrammar anINoGrammar zYd zZd zuc zvc zLb zMb zkc zlc zwc zxc zcg zdg zLf zMf zae zbe zkd zld zGd zHd zce zde zUc zVc zee zfe zgf zhf zif zjf zge zhe zkf zlf ddNoWord odINoWord anINoWord:Option Addr} {cdQuiltError zTg zxa cdNoWord:ClassData} {slQuiltError zUg zeg slINoGrammar zie zyc zNb zmc zzc zfg zNf zje zmd zId zke zWc zle zmf znf zme zof slNoWord slINoWord:Array (Option Value)} {ocINoGrammar kVINoGrammar dcINoGrammar pmINoGrammar cdINoGrammar ctINoGrammar zne zoe zpe zqe zsb zre zAc zBc zCc zDc zYa zEc zOb zPb zQb zRb zTa zSb znc zoc zpc zqc zVa zrc zFc zGc zHc zIc zZa zJc zgg zhg zig zjg zBd zkg zOf zPf zQf zRf zXc zSf zse zte zue zve ztb zwe znd zod zpd zqd zjb zrd zJd zKd zLd zMd zob zNd zxe zye zze zAe zub zBe zYc zZc zad zbd zeb zcd zCe zDe zEe zFe zvb zGe zpf zqf zrf zsf zTb ztf zuf zvf zwf zxf zUb zyf zHe zIe zJe zKe zwb zLe zzf zAf zBf zCf zVb zDf ocINoWord kVINoWord dcINoWord pmINoWord cdINoWord ctINoWord:Value}  (xQuiltError:W.nsIn K mainGlobals "QuiltError" = some (some (.ref C_QuiltError))) (xlQuiltError:K.lookup C_QuiltError=some ⟨.type "type",ddQuiltError,.cls cdQuiltError,slQuiltError⟩) (xeQuiltError:W.excIn K C_QuiltError [.type "ValueError",.type "Exception",.type "BaseException",.type "object"] "ValueError.__new__" = true) (xgaQuiltError:W.findIn K (.ref C_QuiltError) "__getattribute__" = some (some (.builtin "BaseException.__getattribute__"))) (xghQuiltError:W.findIn K (.ref C_QuiltError) "__getattr__" = some none) (xmbQuiltError:W.mroIn K C_QuiltError (.type "BaseException")=some true) (xmoQuiltError:W.mroIn K C_QuiltError (.type "object")=some true) (xhaQuiltError:W.findIn K (.ref C_QuiltError) "__class__" = some (some (.builtin "object.__class__"))) (xhn:W.specialIn K (.builtin "object.__class__") "__get__" = some (some (.builtin "getset_descriptor.__get__"))) (xtk:W.takesIn K (.builtin "object.__class__")=some true) (xNoRule:W.nsIn K mainGlobals "NoRule" = some (some (.ref zea))) (xlNoRule:K.lookup zea=some ⟨.type "type",ddNoRule,.cls zTg,zUg⟩) (xeNoRule:W.excIn K zea [.type "ValueError",.type "Exception",.type "BaseException",.type "object"] "ValueError.__new__" = true) (xgaNoRule:W.findIn K (.ref zea) "__getattribute__" = some (some (.builtin "BaseException.__getattribute__"))) (xghNoRule:W.findIn K (.ref zea) "__getattr__" = some none) (xmbNoRule:W.mroIn K zea (.type "BaseException")=some true) (xmoNoRule:W.mroIn K zea (.type "object")=some true) (xhaNoRule:W.findIn K (.ref zea) "__class__" = some (some (.builtin "object.__class__"))) (xNoGrammar:W.nsIn K mainGlobals "NoGrammar" = some (some (.ref zaa))) (xlNoGrammar:K.lookup zaa=some ⟨.type "type",ddNoGrammar,.cls zxa,zeg⟩) (xeoNoGrammar:W.excOut K zaa [.type "ValueError",.type "Exception",.type "BaseException",.type "object"] "ValueError.__new__" = true) (xgaNoGrammar:W.findIn K (.ref zaa) "__getattribute__" = some (some (.builtin "BaseException.__getattribute__"))) (xghNoGrammar:W.findIn K (.ref zaa) "__getattr__" = some none) (xmbNoGrammar:W.mroIn K zaa (.type "BaseException")=some true) (xmoNoGrammar:W.mroIn K zaa (.type "object")=some true) (xhaNoGrammar:W.findIn K (.ref zaa) "__class__" = some (some (.builtin "object.__class__"))) (xfiNoGrammar:W.findIn K (.ref zaa) "__init__" = some (some (.ref zOa))) (xftNoGrammar:W.typeIn K (.ref zOa)=some (.type "function")) (xflNoGrammar:K.lookup zOa=some ⟨ocINoGrammar,odINoGrammar,.func (W.fnOf "__init__" "NoGrammar.__init__" (defArgs s_ginit) (defBody s_ginit) (defScope s_ginit) .none kVINoGrammar dcINoGrammar pmINoGrammar anINoGrammar cdINoGrammar ctINoGrammar),slINoGrammar⟩) (xfcNoGrammar:W.codeIn K cdINoGrammar "NoGrammar.__init__" = true) (xfkNoGrammar:W.keepIn K (.ref zOa)=true) (xsaNoGrammar:W.findIn K (.ref zaa) "__setattr__" = some (some (.builtin "object.__setattr__"))) (xstNoGrammar:W.strip zxa.mro=[.type "ValueError",.type "Exception",.type "BaseException",.type "object"]) (xhdNoGrammar:zxa.hasDict=true) (xobNoGrammar:zxa.mro.contains (.type "object")=true) (xneNoGrammar:zxa.mro.isEmpty=false) (xw_NoGrammar:W.findIn K (.ref zaa) "why" = some none) (zWb:zxa.mro.contains (.ref zaa)=true) (xCAPITALS:W.nsIn K mainGlobals "CAPITALS" = some (some (.str "ABCDEFGHIJKLMNOPQRSTUVWXYZ" tkCAPITALS))) (xSMALLS:W.nsIn K mainGlobals "SMALLS" = some (some (.str "abcdefghijklmnopqrstuvwxyz" tkSMALLS))) (xLONGEST_NAME:W.nsIn K mainGlobals "LONGEST_NAME" = some (some (.int 4 tkLONGEST_NAME))) (xRule:W.nsIn K mainGlobals "Rule" = some (some (.ref C_Rule))) (spRule:W.specialIn K (.ref C_Rule) "__getattribute__" = some (some (.builtin "type.__getattribute__"))) (rdRule:W.readsIn K C_Rule (.type "type")=true) (fcRule___init__:W.findCls K (.ref C_Rule) (.type "type") "__init__" = some (.val (.ref zAa))) (mlRule___init__:K.lookup zAa=some ⟨zne,zYd,.func (W.fnOf "__init__" "Rule.__init__" (defArgs s_rule_init) (defBody s_rule_init) (defScope s_rule_init) .none zoe zpe zqe zZd zsb zre),zie⟩) (mcRule___init__:W.codeIn K zsb "Rule.__init__" = true) (zxb:W.keepIn K (.ref zAa)=true) (mfRule___init__:W.isFn K (.ref zAa)=true) (xCellRule:W.nsIn K mainGlobals "CellRule" = some (some (.ref zga))) (zvg:W.plainGet K zga Str.empty=true) (zwg:W.hasDictIn K zga=true) (zxg:W.plainOver K zga=true) (zyg:W.findIn K (.ref zga) "__setattr__" = some (some (.builtin "object.__setattr__"))) (zzg:W.findIn K (.ref zga) "__class__" = some (some (.builtin "object.__class__"))) (zAg:W.mroIn K zga (.type "object")=some true) (zMe:W.findIn K (.ref zga) "name" = some none) (zNe:W.findIn K (.ref zga) "cost" = some none) (zXb:W.findIn K (.ref zga) "part_names" = some none) (zOe:W.findIn K (.ref zga) "sign" = some none) (miCellRule:W.makesIn K zga=true) (fiCellRule:W.findIn K (.ref zga) "__init__" = some (some (.ref zra))) (mlCellRule___init__:K.lookup zra=some ⟨zAc,zuc,.func (W.fnOf "__init__" "CellRule.__init__" (defArgs s_cell_init) (defBody s_cell_init) (defScope s_cell_init) .none zBc zCc zDc zvc zYa zEc),zyc⟩) (mcCellRule___init__:W.codeIn K zYa "CellRule.__init__" = true) (zKc:W.keepIn K (.ref zra)=true) (mfCellRule___init__:W.isFn K (.ref zra)=true) (kcCellRule:W.keepIn K (.ref zga)=true) (zKg:W.kitOne K (.ref zga) (.ref C_Rule)=some true) (zIf:W.kitOne K (.ref zga) (.ref zga)=some true) (xBesideRule:W.nsIn K mainGlobals "BesideRule" = some (some (.ref zba))) (zTf:W.plainGet K zba Str.empty=true) (zUf:W.hasDictIn K zba=true) (zVf:W.plainOver K zba=true) (zWf:W.findIn K (.ref zba) "__setattr__" = some (some (.builtin "object.__setattr__"))) (zXf:W.findIn K (.ref zba) "__class__" = some (some (.builtin "object.__class__"))) (zYf:W.mroIn K zba (.type "object")=some true) (zsd:W.findIn K (.ref zba) "name" = some none) (ztd:W.findIn K (.ref zba) "cost" = some none) (zrb:W.findIn K (.ref zba) "part_names" = some none) (zOd:W.findIn K (.ref zba) "one" = some none) (zdd:W.findIn K (.ref zba) "other" = some none) (miBesideRule:W.makesIn K zba=true) (fiBesideRule:W.findIn K (.ref zba) "__init__" = some (some (.ref zma))) (mlBesideRule___init__:K.lookup zma=some ⟨zOb,zLb,.func (W.fnOf "__init__" "BesideRule.__init__" (defArgs s_beside_init) (defBody s_beside_init) (defScope s_beside_init) .none zPb zQb zRb zMb zTa zSb),zNb⟩) (mcBesideRule___init__:W.codeIn K zTa "BesideRule.__init__" = true) (zYb:W.keepIn K (.ref zma)=true) (mfBesideRule___init__:W.isFn K (.ref zma)=true) (kcBesideRule:W.keepIn K (.ref zba)=true) (zlg:W.kitOne K (.ref zba) (.ref C_Rule)=some true) (zCd:W.kitOne K (.ref zba) (.ref zba)=some true) (xAboveRule:W.nsIn K mainGlobals "AboveRule" = some (some (.ref zca))) (zmg:W.plainGet K zca Str.empty=true) (zng:W.hasDictIn K zca=true) (zog:W.plainOver K zca=true) (zpg:W.findIn K (.ref zca) "__setattr__" = some (some (.builtin "object.__setattr__"))) (zqg:W.findIn K (.ref zca) "__class__" = some (some (.builtin "object.__class__"))) (zrg:W.mroIn K zca (.type "object")=some true) (zPd:W.findIn K (.ref zca) "name" = some none) (zQd:W.findIn K (.ref zca) "cost" = some none) (zKb:W.findIn K (.ref zca) "part_names" = some none) (zPe:W.findIn K (.ref zca) "one" = some none) (zud:W.findIn K (.ref zca) "other" = some none) (miAboveRule:W.makesIn K zca=true) (fiAboveRule:W.findIn K (.ref zca) "__init__" = some (some (.ref zoa))) (mlAboveRule___init__:K.lookup zoa=some ⟨znc,zkc,.func (W.fnOf "__init__" "AboveRule.__init__" (defArgs s_above_init) (defBody s_above_init) (defScope s_above_init) .none zoc zpc zqc zlc zVa zrc),zmc⟩) (mcAboveRule___init__:W.codeIn K zVa "AboveRule.__init__" = true) (zsc:W.keepIn K (.ref zoa)=true) (mfAboveRule___init__:W.isFn K (.ref zoa)=true) (kcAboveRule:W.keepIn K (.ref zca)=true) (zBg:W.kitOne K (.ref zca) (.ref C_Rule)=some true) (zQe:W.kitOne K (.ref zca) (.ref zca)=some true) (xTurnRule:W.nsIn K mainGlobals "TurnRule" = some (some (.ref zfa))) (zCg:W.plainGet K zfa Str.empty=true) (zDg:W.hasDictIn K zfa=true) (zEg:W.plainOver K zfa=true) (zFg:W.findIn K (.ref zfa) "__setattr__" = some (some (.builtin "object.__setattr__"))) (zGg:W.findIn K (.ref zfa) "__class__" = some (some (.builtin "object.__class__"))) (zHg:W.mroIn K zfa (.type "object")=some true) (zRe:W.findIn K (.ref zfa) "name" = some none) (zSe:W.findIn K (.ref zfa) "cost" = some none) (zZb:W.findIn K (.ref zfa) "part_names" = some none) (zTe:W.findIn K (.ref zfa) "part" = some none) (zed:W.findIn K (.ref zfa) "turning" = some none) (miTurnRule:W.makesIn K zfa=true) (fiTurnRule:W.findIn K (.ref zfa) "__init__" = some (some (.ref zsa))) (mlTurnRule___init__:K.lookup zsa=some ⟨zFc,zwc,.func (W.fnOf "__init__" "TurnRule.__init__" (defArgs s_turn_init) (defBody s_turn_init) (defScope s_turn_init) .none zGc zHc zIc zxc zZa zJc),zzc⟩) (mcTurnRule___init__:W.codeIn K zZa "TurnRule.__init__" = true) (zLc:W.keepIn K (.ref zsa)=true) (mfTurnRule___init__:W.isFn K (.ref zsa)=true) (kcTurnRule:W.keepIn K (.ref zfa)=true) (zLg:W.kitOne K (.ref zfa) (.ref C_Rule)=some true) (zJf:W.kitOne K (.ref zfa) (.ref zfa)=some true) (xMOST_SIGNS:W.nsIn K mainGlobals "MOST_SIGNS" = some (some (.int 4 tkMOST_SIGNS))) (xMOST_RULES:W.nsIn K mainGlobals "MOST_RULES" = some (some (.int 24 tkMOST_RULES))) (xMOST_NAMES:W.nsIn K mainGlobals "MOST_NAMES" = some (some (.int 8 tkMOST_NAMES))) (q01:W.kitOne K (.ref zga) (.ref zba)=some false) (q02:W.kitOne K (.ref zga) (.ref zca)=some false) (q03:W.kitOne K (.ref zga) (.ref zfa)=some false) (q10:W.kitOne K (.ref zba) (.ref zga)=some false) (q12:W.kitOne K (.ref zba) (.ref zca)=some false) (q13:W.kitOne K (.ref zba) (.ref zfa)=some false) (q20:W.kitOne K (.ref zca) (.ref zga)=some false) (q21:W.kitOne K (.ref zca) (.ref zba)=some false) (q23:W.kitOne K (.ref zca) (.ref zfa)=some false) (q30:W.kitOne K (.ref zfa) (.ref zga)=some false) (q31:W.kitOne K (.ref zfa) (.ref zba)=some false) (q32:W.kitOne K (.ref zfa) (.ref zca)=some false) (fmCellRule_head:W.findIn K (.ref zga) "head" = some (some (.ref zla))) (mlRule_head:K.lookup zla=some ⟨zgg,zcg,.func (W.fnOf "head" "Rule.head" (defArgs s_rule_head) (defBody s_rule_head) (defScope s_rule_head) .none zhg zig zjg zdg zBd zkg),zfg⟩) (mcRule_head:W.codeIn K zBd "Rule.head" = true) (zPa:W.keepIn K (.ref zla)=true) (mfRule_head:W.isFn K (.ref zla)=true) (fmCellRule_parts:W.findIn K (.ref zga) "parts" = some (some (.ref zia))) (mlRule_parts:K.lookup zia=some ⟨zOf,zLf,.func (W.fnOf "parts" "Rule.parts" (defArgs s_rule_parts) (defBody s_rule_parts) (defScope s_rule_parts) .none zPf zQf zRf zMf zXc zSf),zNf⟩) (mcRule_parts:W.codeIn K zXc "Rule.parts" = true) (zJa:W.keepIn K (.ref zia)=true) (mfRule_parts:W.isFn K (.ref zia)=true) (fmCellRule_told:W.findIn K (.ref zga) "told" = some (some (.ref zBa))) (mlCellRule_told:K.lookup zBa=some ⟨zse,zae,.func (W.fnOf "told" "CellRule.told" (defArgs s_cell_told) (defBody s_cell_told) (defScope s_cell_told) .none zte zue zve zbe ztb zwe),zje⟩) (mcCellRule_told:W.codeIn K ztb "CellRule.told" = true) (zyb:W.keepIn K (.ref zBa)=true) (mfCellRule_told:W.isFn K (.ref zBa)=true) (fmBesideRule_head:W.findIn K (.ref zba) "head" = some (some (.ref zla))) (fmBesideRule_parts:W.findIn K (.ref zba) "parts" = some (some (.ref zia))) (fmBesideRule_told:W.findIn K (.ref zba) "told" = some (some (.ref zva))) (mlBesideRule_told:K.lookup zva=some ⟨znd,zkd,.func (W.fnOf "told" "BesideRule.told" (defArgs s_beside_told) (defBody s_beside_told) (defScope s_beside_told) .none zod zpd zqd zld zjb zrd),zmd⟩) (mcBesideRule_told:W.codeIn K zjb "BesideRule.told" = true) (zkb:W.keepIn K (.ref zva)=true) (mfBesideRule_told:W.isFn K (.ref zva)=true) (fmAboveRule_head:W.findIn K (.ref zca) "head" = some (some (.ref zla))) (fmAboveRule_parts:W.findIn K (.ref zca) "parts" = some (some (.ref zia))) (fmAboveRule_told:W.findIn K (.ref zca) "told" = some (some (.ref zza))) (mlAboveRule_told:K.lookup zza=some ⟨zJd,zGd,.func (W.fnOf "told" "AboveRule.told" (defArgs s_above_told) (defBody s_above_told) (defScope s_above_told) .none zKd zLd zMd zHd zob zNd),zId⟩) (mcAboveRule_told:W.codeIn K zob "AboveRule.told" = true) (zpb:W.keepIn K (.ref zza)=true) (mfAboveRule_told:W.isFn K (.ref zza)=true) (fmTurnRule_head:W.findIn K (.ref zfa) "head" = some (some (.ref zla))) (fmTurnRule_parts:W.findIn K (.ref zfa) "parts" = some (some (.ref zia))) (fmTurnRule_told:W.findIn K (.ref zfa) "told" = some (some (.ref zCa))) (mlTurnRule_told:K.lookup zCa=some ⟨zxe,zce,.func (W.fnOf "told" "TurnRule.told" (defArgs s_turn_told) (defBody s_turn_told) (defScope s_turn_told) .none zye zze zAe zde zub zBe),zke⟩) (mcTurnRule_told:W.codeIn K zub "TurnRule.told" = true) (zzb:W.keepIn K (.ref zCa)=true) (mfTurnRule_told:W.isFn K (.ref zCa)=true) (xGrammar:W.nsIn K mainGlobals "Grammar" = some (some (.ref zda))) (zMg:W.plainGet K zda Str.empty=true) (zNg:W.hasDictIn K zda=true) (zOg:W.plainOver K zda=true) (zPg:W.findIn K (.ref zda) "__setattr__" = some (some (.builtin "object.__setattr__"))) (zQg:W.findIn K (.ref zda) "__class__" = some (some (.builtin "object.__class__"))) (zRg:W.mroIn K zda (.type "object")=some true) (zUe:W.findIn K (.ref zda) "signs" = some none) (zVe:W.findIn K (.ref zda) "start" = some none) (zEf:W.findIn K (.ref zda) "kept" = some none) (zvd:W.findIn K (.ref zda) "numbers" = some none) (miGrammar:W.makesIn K zda=true) (fiGrammar:W.findIn K (.ref zda) "__init__" = some (some (.ref zua))) (mlGrammar___init__:K.lookup zua=some ⟨zYc,zUc,.func (W.fnOf "__init__" "Grammar.__init__" (defArgs s_gram_init) (defBody s_gram_init) (defScope s_gram_init) .none zZc zad zbd zVc zeb zcd),zWc⟩) (mcGrammar___init__:W.codeIn K zeb "Grammar.__init__" = true) (zfd:W.keepIn K (.ref zua)=true) (mfGrammar___init__:W.isFn K (.ref zua)=true) (kcGrammar:W.keepIn K (.ref zda)=true) (fmGrammar_rules:W.findIn K (.ref zda) "rules" = some (some (.ref zDa))) (mlGrammar_rules:K.lookup zDa=some ⟨zCe,zee,.func (W.fnOf "rules" "Grammar.rules" (defArgs s_gram_rules) (defBody s_gram_rules) (defScope s_gram_rules) .none zDe zEe zFe zfe zvb zGe),zle⟩) (mcGrammar_rules:W.codeIn K zvb "Grammar.rules" = true) (zAb:W.keepIn K (.ref zDa)=true) (mfGrammar_rules:W.isFn K (.ref zDa)=true) (fmGrammar_rule:W.findIn K (.ref zda) "rule" = some (some (.ref zFa))) (mlGrammar_rule:K.lookup zFa=some ⟨zpf,zgf,.func (W.fnOf "rule" "Grammar.rule" (defArgs s_gram_rule) (defBody s_gram_rule) (defScope s_gram_rule) .none zqf zrf zsf zhf zTb ztf),zmf⟩) (mcGrammar_rule:W.codeIn K zTb "Grammar.rule" = true) (zac:W.keepIn K (.ref zFa)=true) (mfGrammar_rule:W.isFn K (.ref zFa)=true) (fmGrammar_many:W.findIn K (.ref zda) "many" = some (some (.ref zGa))) (mlGrammar_many:K.lookup zGa=some ⟨zuf,zif,.func (W.fnOf "many" "Grammar.many" (defArgs s_gram_many) (defBody s_gram_many) (defScope s_gram_many) .none zvf zwf zxf zjf zUb zyf),znf⟩) (mcGrammar_many:W.codeIn K zUb "Grammar.many" = true) (zbc:W.keepIn K (.ref zGa)=true) (mfGrammar_many:W.isFn K (.ref zGa)=true) (fmGrammar_names:W.findIn K (.ref zda) "names" = some (some (.ref zEa))) (mlGrammar_names:K.lookup zEa=some ⟨zHe,zge,.func (W.fnOf "names" "Grammar.names" (defArgs s_gram_names) (defBody s_gram_names) (defScope s_gram_names) .none zIe zJe zKe zhe zwb zLe),zme⟩) (mcGrammar_names:W.codeIn K zwb "Grammar.names" = true) (zBb:W.keepIn K (.ref zEa)=true) (mfGrammar_names:W.isFn K (.ref zEa)=true) (fmGrammar_told:W.findIn K (.ref zda) "told" = some (some (.ref zHa))) (mlGrammar_told:K.lookup zHa=some ⟨zzf,zkf,.func (W.fnOf "told" "Grammar.told" (defArgs s_gram_told) (defBody s_gram_told) (defScope s_gram_told) .none zAf zBf zCf zlf zVb zDf),zof⟩) (mcGrammar_told:W.codeIn K zVb "Grammar.told" = true) (zcc:W.keepIn K (.ref zHa)=true) (mfGrammar_told:W.isFn K (.ref zHa)=true) (xNoWord:W.nsIn K mainGlobals "NoWord" = some (some (.ref C_NoWord))) (xlNoWord:K.lookup C_NoWord=some ⟨.type "type",ddNoWord,.cls cdNoWord,slNoWord⟩) (xeoNoWord:W.excOut K C_NoWord [.type "ValueError",.type "Exception",.type "BaseException",.type "object"] "ValueError.__new__" = true) (xgaNoWord:W.findIn K (.ref C_NoWord) "__getattribute__" = some (some (.builtin "BaseException.__getattribute__"))) (xghNoWord:W.findIn K (.ref C_NoWord) "__getattr__" = some none) (xmbNoWord:W.mroIn K C_NoWord (.type "BaseException")=some true) (xmoNoWord:W.mroIn K C_NoWord (.type "object")=some true) (xhaNoWord:W.findIn K (.ref C_NoWord) "__class__" = some (some (.builtin "object.__class__"))) (xfiNoWord:W.findIn K (.ref C_NoWord) "__init__" = some (some (.ref fINoWord))) (xftNoWord:W.typeIn K (.ref fINoWord)=some (.type "function")) (xflNoWord:K.lookup fINoWord=some ⟨ocINoWord,odINoWord,.func (W.fnOf "__init__" "NoWord.__init__" (defArgs s_winit) (defBody s_winit) (defScope s_winit) .none kVINoWord dcINoWord pmINoWord anINoWord cdINoWord ctINoWord),slINoWord⟩) (xfcNoWord:W.codeIn K cdINoWord "NoWord.__init__" = true) (xfkNoWord:W.keepIn K (.ref fINoWord)=true) (xsaNoWord:W.findIn K (.ref C_NoWord) "__setattr__" = some (some (.builtin "object.__setattr__"))) (xstNoWord:W.strip cdNoWord.mro=[.type "ValueError",.type "Exception",.type "BaseException",.type "object"]) (xhdNoWord:cdNoWord.hasDict=true) (xobNoWord:cdNoWord.mro.contains (.type "object")=true) (xneNoWord:cdNoWord.mro.isEmpty=false) (xw_NoWord:W.findIn K (.ref C_NoWord) "at" = some none) (xmNoWord_QuiltError:cdNoWord.mro.contains (.ref C_QuiltError)=true) (xNoFit:W.nsIn K mainGlobals "NoFit" = some (some (.ref zNa))) (xNoName:W.nsIn K mainGlobals "NoName" = some (some (.ref C_NoName))) (xNoNumber:W.nsIn K mainGlobals "NoNumber" = some (some (.ref C_NoNumber))) (xNoPicture:W.nsIn K mainGlobals "NoPicture" = some (some (.ref C_NoPicture))) (xNoRow:W.nsIn K mainGlobals "NoRow" = some (some (.ref C_NoRow))) (xNoText:W.nsIn K mainGlobals "NoText" = some (some (.ref C_NoText))) (xNoTree:W.nsIn K mainGlobals "NoTree" = some (some (.ref C_NoTree))) (xTooMany:W.nsIn K mainGlobals "TooMany" = some (some (.ref C_TooMany))) (kw0:W.kitOne K (.ref C_NoWord) (.ref C_NoWord)=some true) (kw1:W.kitOne K (.ref C_NoWord) (.type "ValueError")=some true) (kw2:W.kitAny K (.ref C_NoWord) [.ref zNa,.ref zaa,.ref C_NoName,.ref C_NoNumber,.ref C_NoPicture,.ref C_NoRow,.ref zea,.ref C_NoText,.ref C_NoTree,.ref C_TooMany]=some false) (xMOST_NUMBERS:W.nsIn K mainGlobals "MOST_NUMBERS" = some (some (.int 200 tkMOST_NUMBERS))) (xMOST_WITHIN:W.nsIn K mainGlobals "MOST_WITHIN" = some (some (.int 60 tkMOST_WITHIN)))
  (z0:W.nsIn K mainGlobals "len" = some none) (z1:W.nsIn K mainGlobals "range" = some none) (z2:W.nsIn K mainGlobals "list" = some none) (z3:W.nsIn K mainGlobals "tuple" = some none) (z4:W.nsIn K mainGlobals "isinstance" = some none) (z5:W.nsIn K mainGlobals "int" = some none) (z6:W.nsIn K mainGlobals "bool" = some none) (z7:W.nsIn K mainGlobals "str" = some none) (z8:W.nsIn K mainGlobals "reversed" = some none) (z9:W.nsIn K mainGlobals "all" = some none) (z10:W.nsIn K mainGlobals "enumerate" = some none) (z11:W.nsIn K mainGlobals "zip" = some none) (z12:W.nsIn K mainGlobals "sorted" = some none) (z13:W.nsIn K mainGlobals "set" = some none) (z14:W.nsIn K mainGlobals "dict" = some none) (z15:W.nsIn K mainGlobals "min" = some none) (z16:W.nsIn K mainGlobals "max" = some none) (z17:W.nsIn K mainGlobals "sum" = some none) (z18:W.nsIn K mainGlobals "ValueError" = some none) :
  ∃ fd:FuncData,(∀ (s:Shared) (v:Value),BindsTo s fd ⟨[v],[]⟩ [("_law_script",v)])∧∀ base:Heap,K.In base→base.Ns mainGlobals mg→FnOk l.prog w K mg base CX0 8 fa fd ["_law_script"] (sp_law K):=by
 have e:=hfa.symm.trans (W.mg_of X G a27)
 cases e
 have nb:NB mg:=⟨W.mg_none_of X G z0,W.mg_none_of X G z1,W.mg_none_of X G z2,W.mg_none_of X G z3,W.mg_none_of X G z4,W.mg_none_of X G z5,W.mg_none_of X G z6,W.mg_none_of X G z7,W.mg_none_of X G z8,W.mg_none_of X G z9,W.mg_none_of X G z10,W.mg_none_of X G z11,W.mg_none_of X G z12,W.mg_none_of X G z13,W.mg_none_of X G z14,W.mg_none_of X G z15,W.mg_none_of X G z16,W.mg_none_of X G z17,W.mg_none_of X G z18⟩
 have F1:=fun_mk (st:=s_only_of) l1 c1 k1
 have b1:=F1.binds (ps:=["text","letters"]) fun _ _ _ _ _ _ us hl=>match us,hl with | [_,_],_=>rfl
 have F2:=fun_mk (st:=s_is_name) l2 c2 k2
 have b2:=F2.binds (ps:=["text"]) fun _ _ _ _ _ _ us hl=>match us,hl with | [_],_=>rfl
 have F3:=fun_mk (st:=s_are_signs) l3 c3 k3
 have b3:=F3.binds (ps:=["text"]) fun _ _ _ _ _ _ us hl=>match us,hl with | [_],_=>rfl
 have F4:=fun_mk (st:=s_check_made_of) l4 c4 k4
 have b4:=F4.binds (ps:=["signs","start","rules"]) fun _ _ _ _ _ _ us hl=>match us,hl with | [_,_,_],_=>rfl
 have F5:=fun_mk (st:=s_numbers_by_name) l5 c5 k5
 have b5:=F5.binds (ps:=["start","rules"]) fun _ _ _ _ _ _ us hl=>match us,hl with | [_,_],_=>rfl
 have F6:=fun_mk (st:=s_l_cell) l6 c6 k6
 have b6:=F6.binds (ps:=["_law_script","_law_k"]) fun _ _ _ _ _ _ us hl=>match us,hl with | [_,_],_=>rfl
 have F7:=fun_mk (st:=s_l_whole) l7 c7 k7
 have b7:=F7.binds (ps:=["_law_found"]) fun _ _ _ _ _ _ us hl=>match us,hl with | [_],_=>rfl
 have F8:=fun_mk (st:=s_l_signs) l8 c8 k8
 have b8:=F8.binds (ps:=["_law_cell_here","_law_most"]) fun _ _ _ _ _ _ us hl=>match us,hl with | [_,_],_=>rfl
 have F9:=fun_mk (st:=s_l_names) l9 c9 k9
 have b9:=F9.binds (ps:=["_law_cell_here"]) fun _ _ _ _ _ _ us hl=>match us,hl with | [_],_=>rfl
 have F10:=fun_mk (st:=s_l_rule) l10 c10 k10
 have b10:=F10.binds (ps:=["_law_told_here"]) fun _ _ _ _ _ _ us hl=>match us,hl with | [_],_=>rfl
 have F11:=fun_mk (st:=s_l_parts) l11 c11 k11
 have b11:=F11.binds (ps:=["_law_told_here"]) fun _ _ _ _ _ _ us hl=>match us,hl with | [_],_=>rfl
 have F12:=fun_mk (st:=s_l_drawn_rule) l12 c12 k12
 have b12:=F12.binds (ps:=["_law_cell_here","_law_names_here","_law_signs_here"]) fun _ _ _ _ _ _ us hl=>match us,hl with | [_,_,_],_=>rfl
 have F13:=fun_mk (st:=s_l_rules) l13 c13 k13
 have b13:=F13.binds (ps:=["_law_script","_law_names_here","_law_signs_here"]) fun _ _ _ _ _ _ us hl=>match us,hl with | [_,_,_],_=>rfl
 have F14:=fun_mk (st:=s_l_numbers_of) l14 c14 k14
 have b14:=F14.binds (ps:=["_law_rules_here","_law_count"]) fun _ _ _ _ _ _ us hl=>match us,hl with | [_,_],_=>rfl
 have F15:=fun_mk (st:=s_l_full) l15 c15 k15
 have b15:=F15.binds (ps:=["_law_levels","_law_numbers"]) fun _ _ _ _ _ _ us hl=>match us,hl with | [_,_],_=>rfl
 have F16:=fun_mk (st:=s_l_base) l16 c16 k16
 have b16:=F16.binds (ps:=["_law_script","_law_rules_here","_law_cell_here"]) fun _ _ _ _ _ _ us hl=>match us,hl with | [_,_,_],_=>rfl
 have F17:=fun_mk (st:=s_l_made_whole) l17 c17 k17
 have b17:=F17.binds (ps:=["_law_rules_here","_law_words"]) fun _ _ _ _ _ _ us hl=>match us,hl with | [_,_],_=>rfl
 have F18:=fun_mk (st:=s_l_spoilt) l18 c18 k18
 have b18:=F18.binds (ps:=["_law_words","_law_cell_here","_law_many"]) fun _ _ _ _ _ _ us hl=>match us,hl with | [_,_,_],_=>rfl
 have F19:=fun_mk (st:=s_l_number_of) l19 c19 k19
 have b19:=F19.binds (ps:=["_law_word","_law_many"]) fun _ _ _ _ _ _ us hl=>match us,hl with | [_,_],_=>rfl
 have F20:=fun_mk (st:=s_l_due) l20 c20 k20
 have b20:=F20.binds (ps:=["_law_rules_here","_law_words"]) fun _ _ _ _ _ _ us hl=>match us,hl with | [_,_],_=>rfl
 have F21:=fun_mk (st:=s_l_tree) l21 c21 k21
 have b21:=F21.binds (ps:=["_law_rules_here","_law_words"]) fun _ _ _ _ _ _ us hl=>match us,hl with | [_,_],_=>rfl
 have F22:=fun_mk (st:=s_grown) l22 c22 k22
 have b22:=F22.binds (ps:=["grammar","numbers"]) fun _ _ _ _ _ _ us hl=>match us,hl with | [_,_],_=>rfl
 have F23:=fun_mk (st:=s_read_tree) l23 c23 k23
 have b23:=F23.binds (ps:=["grammar","text"]) fun _ _ _ _ _ _ us hl=>match us,hl with | [_,_],_=>rfl
 have F24:=fun_mk (st:=s_l_grammar) l24 c24 k24
 have b24:=F24.binds (ps:=["_law_rules_here","_law_names_here","_law_signs_here"]) fun _ _ _ _ _ _ us hl=>match us,hl with | [_,_,_],_=>rfl
 have F25:=fun_mk (st:=s_l_at_of) l25 c25 k25
 have b25:=F25.binds (ps:=["_law_error"]) fun _ _ _ _ _ _ us hl=>match us,hl with | [_],_=>rfl
 have F26:=fun_mk (st:=s_l_told) l26 c26 k26
 have b26:=F26.binds (ps:=["_law_grammar_here","_law_text","_law_due_here","_law_tree_here"]) fun _ _ _ _ _ _ us hl=>match us,hl with | [_,_,_,_],_=>rfl
 have F27:=fun_mk (st:=s_law) l27 c27 k27
 refine ⟨W.fnOf "law" "law" (defArgs s_law) (defBody s_law) (defScope s_law) .none kV27 dc27 pm27 an27 cd27 ct27,fun s v=>.of_eq rfl,fun base _ _=>?_⟩
 have m_QuiltError:=W.mg_of X G xQuiltError
 have xc_QuiltError:XCls K C_QuiltError [.type "ValueError",.type "Exception",.type "BaseException",.type "object"] "ValueError.__new__":=⟨xeQuiltError⟩
 have xr_QuiltError:XR K C_QuiltError:=⟨_,_,_,_,_,_,_,_,⟨xeQuiltError⟩,PySem.F.excBase_ValueError,rfl,PySem.F.excBase_ValueError⟩
 have xt_QuiltError:W.XTy K C_QuiltError:=⟨xgaQuiltError,xghQuiltError,xmbQuiltError,xmoQuiltError,xhaQuiltError,xhn,xtk,_,_,_,xlQuiltError⟩
 have zta:=W.mg_of X G xNoRule
 have xc_NoRule:XCls K zea [.type "ValueError",.type "Exception",.type "BaseException",.type "object"] "ValueError.__new__":=⟨xeNoRule⟩
 have zwa:XR K zea:=⟨_,_,_,_,_,_,_,_,⟨xeNoRule⟩,PySem.F.excBase_ValueError,rfl,PySem.F.excBase_ValueError⟩
 have xt_NoRule:W.XTy K zea:=⟨xgaNoRule,xghNoRule,xmbNoRule,xmoNoRule,xhaNoRule,xhn,xtk,_,_,_,xlNoRule⟩
 have zja:=W.mg_of X G xNoGrammar
 have zZf:XOut K zaa [.type "ValueError",.type "Exception",.type "BaseException",.type "object"] "ValueError.__new__":=⟨xeoNoGrammar⟩
 have xt_NoGrammar:W.XTy K zaa:=⟨xgaNoGrammar,xghNoGrammar,xmbNoGrammar,xmoNoGrammar,xhaNoGrammar,xhn,xtk,_,_,_,xlNoGrammar⟩
 have clNoGrammar:W.clsIn K zaa=some zxa:=by unfold W.clsIn;rw [xlNoGrammar]
 have xh_NoGrammar:W.hasDictIn K zaa=true:=by unfold W.hasDictIn;rw [clNoGrammar];exact xhdNoGrammar
 have FINoGrammar:=fun_mk (st:=s_ginit) xflNoGrammar xfcNoGrammar xfkNoGrammar
 have xsINoGrammar:W.XSt K zaa "why":=⟨xsaNoGrammar,⟨zxa,clNoGrammar,xstNoGrammar,xhdNoGrammar,xobNoGrammar,xneNoGrammar⟩,xw_NoGrammar⟩
 have bINoGrammar:=FINoGrammar.binds (ps:=["self","why"]) fun _ _ _ _ _ _ us hl=>match us,hl with | [_,_],_=>rfl
 have zna:XI l.prog w K mg base 1 zaa "why":=⟨_,_,_,_,_,_,_,_,zOa,_,_,zZf,PySem.F.excBase_ValueError,rfl,PySem.F.excBase_ValueError,xfiNoGrammar,xftNoGrammar,ok_ginit FINoGrammar xsINoGrammar,bINoGrammar⟩
 have und_NoGrammar_NoGrammar:Under K zaa zaa:=⟨_,_,_,xlNoGrammar,zWb⟩
 have m_CAPITALS:=W.mg_of X G xCAPITALS
 have m_SMALLS:=W.mg_of X G xSMALLS
 have m_LONGEST_NAME:=W.mg_of X G xLONGEST_NAME
 have m_Rule:=W.mg_of X G xRule
 have zCb:=fun_mk (st:=s_rule_init) mlRule___init__ mcRule___init__ zxb
 have zWe:=zCb.binds (ps:=["self","name","cost","part_names"]) fun _ _ _ _ _ _ us hl=>match us,hl with | [_,_,_,_],_=>rfl
 have cf_Rule___init__:ClsFn K C_Rule "__init__" zAa:=⟨spRule,rdRule,fcRule___init__,zxb⟩
 have zmb:=W.mg_of X G xCellRule
 have zQa:ICls K zga:=⟨⟨zvg,zwg,zxg,zyg⟩,zzg,xhn,xtk,zAg⟩
 have zab:=fun_mk (st:=s_cell_init) mlCellRule___init__ mcCellRule___init__ zKc
 have zMc:=zab.binds (ps:=["self","name","cost","sign"]) fun _ _ _ _ _ _ us hl=>match us,hl with | [_,_,_,_],_=>rfl
 have zsg:Mk K zga zra:=⟨miCellRule,fiCellRule,mfCellRule___init__,kcCellRule⟩
 have zag:=W.mg_of X G xBesideRule
 have zIa:ICls K zba:=⟨⟨zTf,zUf,zVf,zWf⟩,zXf,xhn,xtk,zYf⟩
 have zUa:=fun_mk (st:=s_beside_init) mlBesideRule___init__ mcBesideRule___init__ zYb
 have zdc:=zUa.binds (ps:=["self","name","cost","one","other"]) fun _ _ _ _ _ _ us hl=>match us,hl with | [_,_,_,_,_],_=>rfl
 have zKf:Mk K zba zma:=⟨miBesideRule,fiBesideRule,mfBesideRule___init__,kcBesideRule⟩
 have ztg:=W.mg_of X G xAboveRule
 have zKa:ICls K zca:=⟨⟨zmg,zng,zog,zpg⟩,zqg,xhn,xtk,zrg⟩
 have zWa:=fun_mk (st:=s_above_init) mlAboveRule___init__ mcAboveRule___init__ zsc
 have ztc:=zWa.binds (ps:=["self","name","cost","one","other"]) fun _ _ _ _ _ _ us hl=>match us,hl with | [_,_,_,_,_],_=>rfl
 have zbg:Mk K zca zoa:=⟨miAboveRule,fiAboveRule,mfAboveRule___init__,kcAboveRule⟩
 have zIg:=W.mg_of X G xTurnRule
 have zRa:ICls K zfa:=⟨⟨zCg,zDg,zEg,zFg⟩,zGg,xhn,xtk,zHg⟩
 have zbb:=fun_mk (st:=s_turn_init) mlTurnRule___init__ mcTurnRule___init__ zLc
 have zNc:=zbb.binds (ps:=["self","name","cost","part","turning"]) fun _ _ _ _ _ _ us hl=>match us,hl with | [_,_,_,_,_],_=>rfl
 have zug:Mk K zfa zsa:=⟨miTurnRule,fiTurnRule,mfTurnRule___init__,kcTurnRule⟩
 let R:RC:=⟨C_Rule,zga,zba,zca,zfa⟩
 have rk:RKit K R:=⟨zQa,zIa,zKa,zRa,⟨zMe,zNe,zXb,zOe⟩,⟨zsd,ztd,zrb,zOd,zdd⟩,⟨zPd,zQd,zKb,zPe,zud⟩,⟨zRe,zSe,zZb,zTe,zed⟩,zKg,zlg,zBg,zLg,zIf,zCd,zQe,zJf⟩
 have m_MOST_SIGNS:=W.mg_of X G xMOST_SIGNS
 have m_MOST_RULES:=W.mg_of X G xMOST_RULES
 have m_MOST_NAMES:=W.mg_of X G xMOST_NAMES
 have rk4:RKit4 K R:=⟨fun i j hi hj=>by rcases k_cases hi with rfl | rfl | rfl | rfl <;> rcases k_cases hj with rfl | rfl | rfl | rfl;exact zIf;exact q01;exact q02;exact q03;exact q10;exact zCd;exact q12;exact q13;exact q20;exact q21;exact zQe;exact q23;exact q30;exact q31;exact q32;exact zJf⟩
 have zSa:=fun_mk (st:=s_rule_head) mlRule_head mcRule_head zPa
 have zdb:=zSa.binds (ps:=["self"]) fun _ _ _ _ _ _ us hl=>match us,hl with | [_],_=>rfl
 have zRd:Meth K zga "head" zla:=⟨fmCellRule_head,mfRule_head,zPa⟩
 have zLa:=fun_mk (st:=s_rule_parts) mlRule_parts mcRule_parts zJa
 have zXa:=zLa.binds (ps:=["self"]) fun _ _ _ _ _ _ us hl=>match us,hl with | [_],_=>rfl
 have zwd:Meth K zga "parts" zia:=⟨fmCellRule_parts,mfRule_parts,zJa⟩
 have zDb:=fun_mk (st:=s_cell_told) mlCellRule_told mcCellRule_told zyb
 have zXe:=zDb.binds (ps:=["self"]) fun _ _ _ _ _ _ us hl=>match us,hl with | [_],_=>rfl
 have zSd:Meth K zga "told" zBa:=⟨fmCellRule_told,mfCellRule_told,zyb⟩
 have zgd:Meth K zba "head" zla:=⟨fmBesideRule_head,mfRule_head,zPa⟩
 have zOc:Meth K zba "parts" zia:=⟨fmBesideRule_parts,mfRule_parts,zJa⟩
 have zlb:=fun_mk (st:=s_beside_told) mlBesideRule_told mcBesideRule_told zkb
 have zxd:=zlb.binds (ps:=["self"]) fun _ _ _ _ _ _ us hl=>match us,hl with | [_],_=>rfl
 have zhd:Meth K zba "told" zva:=⟨fmBesideRule_told,mfBesideRule_told,zkb⟩
 have zyd:Meth K zca "head" zla:=⟨fmAboveRule_head,mfRule_head,zPa⟩
 have zid:Meth K zca "parts" zia:=⟨fmAboveRule_parts,mfRule_parts,zJa⟩
 have zqb:=fun_mk (st:=s_above_told) mlAboveRule_told mcAboveRule_told zpb
 have zTd:=zqb.binds (ps:=["self"]) fun _ _ _ _ _ _ us hl=>match us,hl with | [_],_=>rfl
 have zzd:Meth K zca "told" zza:=⟨fmAboveRule_told,mfAboveRule_told,zpb⟩
 have zUd:Meth K zfa "head" zla:=⟨fmTurnRule_head,mfRule_head,zPa⟩
 have zAd:Meth K zfa "parts" zia:=⟨fmTurnRule_parts,mfRule_parts,zJa⟩
 have zEb:=fun_mk (st:=s_turn_told) mlTurnRule_told mcTurnRule_told zzb
 have zYe:=zEb.binds (ps:=["self"]) fun _ _ _ _ _ _ us hl=>match us,hl with | [_],_=>rfl
 have zVd:Meth K zfa "told" zCa:=⟨fmTurnRule_told,mfTurnRule_told,zzb⟩
 have zSg:=W.mg_of X G xGrammar
 have zpa:ICls K zda:=⟨⟨zMg,zNg,zOg,zPg⟩,zQg,xhn,xtk,zRg⟩
 have zfb:=fun_mk (st:=s_gram_init) mlGrammar___init__ mcGrammar___init__ zfd
 have zjd:=zfb.binds (ps:=["self","signs","start","rules"]) fun _ _ _ _ _ _ us hl=>match us,hl with | [_,_,_,_],_=>rfl
 have zJg:Mk K zda zua:=⟨miGrammar,fiGrammar,mfGrammar___init__,kcGrammar⟩
 have gk:GNA K zda:=⟨zpa,zUe,zVe,zEf,zvd⟩
 have zFb:=fun_mk (st:=s_gram_rules) mlGrammar_rules mcGrammar_rules zAb
 have zZe:=zFb.binds (ps:=["self"]) fun _ _ _ _ _ _ us hl=>match us,hl with | [_],_=>rfl
 have zWd:Meth K zda "rules" zDa:=⟨fmGrammar_rules,mfGrammar_rules,zAb⟩
 have zec:=fun_mk (st:=s_gram_rule) mlGrammar_rule mcGrammar_rule zac
 have zFf:=zec.binds (ps:=["self","k"]) fun _ _ _ _ _ _ us hl=>match us,hl with | [_,_],_=>rfl
 have zaf:Meth K zda "rule" zFa:=⟨fmGrammar_rule,mfGrammar_rule,zac⟩
 have zfc:=fun_mk (st:=s_gram_many) mlGrammar_many mcGrammar_many zbc
 have zGf:=zfc.binds (ps:=["self"]) fun _ _ _ _ _ _ us hl=>match us,hl with | [_],_=>rfl
 have zbf:Meth K zda "many" zGa:=⟨fmGrammar_many,mfGrammar_many,zbc⟩
 have zGb:=fun_mk (st:=s_gram_names) mlGrammar_names mcGrammar_names zBb
 have zcf:=zGb.binds (ps:=["self"]) fun _ _ _ _ _ _ us hl=>match us,hl with | [_],_=>rfl
 have zXd:Meth K zda "names" zEa:=⟨fmGrammar_names,mfGrammar_names,zBb⟩
 have zgc:=fun_mk (st:=s_gram_told) mlGrammar_told mcGrammar_told zcc
 have zHf:=zgc.binds (ps:=["self"]) fun _ _ _ _ _ _ us hl=>match us,hl with | [_],_=>rfl
 have zdf:Meth K zda "told" zHa:=⟨fmGrammar_told,mfGrammar_told,zcc⟩
 have m_NoWord:=W.mg_of X G xNoWord
 have xo_NoWord:XOut K C_NoWord [.type "ValueError",.type "Exception",.type "BaseException",.type "object"] "ValueError.__new__":=⟨xeoNoWord⟩
 have xt_NoWord:W.XTy K C_NoWord:=⟨xgaNoWord,xghNoWord,xmbNoWord,xmoNoWord,xhaNoWord,xhn,xtk,_,_,_,xlNoWord⟩
 have clNoWord:W.clsIn K C_NoWord=some cdNoWord:=by unfold W.clsIn;rw [xlNoWord]
 have xh_NoWord:W.hasDictIn K C_NoWord=true:=by unfold W.hasDictIn;rw [clNoWord];exact xhdNoWord
 have FINoWord:=fun_mk (st:=s_winit) xflNoWord xfcNoWord xfkNoWord
 have xsINoWord:W.XSt K C_NoWord "at":=⟨xsaNoWord,⟨cdNoWord,clNoWord,xstNoWord,xhdNoWord,xobNoWord,xneNoWord⟩,xw_NoWord⟩
 have bINoWord:=FINoWord.binds (ps:=["self","at"]) fun _ _ _ _ _ _ us hl=>match us,hl with | [_,_],_=>rfl
 have xi_NoWord:XI l.prog w K mg base 1 C_NoWord "at":=⟨_,_,_,_,_,_,_,_,fINoWord,_,_,xo_NoWord,PySem.F.excBase_ValueError,rfl,PySem.F.excBase_ValueError,xfiNoWord,xftNoWord,ok_winit FINoWord xsINoWord,bINoWord⟩
 have und_NoWord_QuiltError:Under K C_NoWord C_QuiltError:=⟨_,_,_,xlNoWord,xmNoWord_QuiltError⟩
 have zef:=W.mg_of X G xNoFit
 have m_NoName:=W.mg_of X G xNoName
 have m_NoNumber:=W.mg_of X G xNoNumber
 have m_NoPicture:=W.mg_of X G xNoPicture
 have m_NoRow:=W.mg_of X G xNoRow
 have m_NoText:=W.mg_of X G xNoText
 have m_NoTree:=W.mg_of X G xNoTree
 have m_TooMany:=W.mg_of X G xTooMany
 have m_MOST_NUMBERS:=W.mg_of X G xMOST_NUMBERS
 have m_MOST_WITHIN:=W.mg_of X G xMOST_WITHIN
 have c_only_of:Cal l.prog w K mg base CX0 1 "only_of" ["text","letters"] (sp_only_of):=⟨_,_,ok_only_of F1 nb,W.mg_of X G a1,k1,b1⟩
 have c_is_name:Cal l.prog w K mg base CX0 2 "is_name" ["text"] (sp_is_name):=⟨_,_,ok_is_name F2 nb m_LONGEST_NAME m_CAPITALS c_only_of,W.mg_of X G a2,k2,b2⟩
 have zha:CalC l.prog w K mg base (CX1 l.prog w) 3 "Rule" "__init__" ["self","name","cost","part_names"] (sp_rule_init K zea):=⟨_,_,_,ok_rule_init zCb nb zta zwa c_is_name,m_Rule,cf_Rule___init__,zWe⟩
 have zHb:CalK l.prog w K mg base (CX1 l.prog w) 4 "CellRule" zga ["self","name","cost","sign"] (sp_cell_init K zea):=⟨_,_,ok_cell_init zab nb m_SMALLS zta zwa c_only_of zha,zmb,zsg,zMc⟩
 have zgb:CalK l.prog w K mg base (CX1 l.prog w) 4 "BesideRule" zba ["self","name","cost","one","other"] (sp_pair_init K zea):=⟨_,_,ok_beside_init zUa nb zha,zag,zKf,zdc⟩
 have znb:CalK l.prog w K mg base (CX1 l.prog w) 4 "AboveRule" zca ["self","name","cost","one","other"] (sp_pair_init K zea):=⟨_,_,ok_above_init zWa nb zha,ztg,zbg,ztc⟩
 have zIb:CalK l.prog w K mg base (CX1 l.prog w) 4 "TurnRule" zfa ["self","name","cost","part","turning"] (sp_turn_init K zea):=⟨_,_,ok_turn_init zbb nb zta zwa zha,zIg,zug,zNc⟩
 have cm_head_CellRule:CalM l.prog w K mg base CX0 1 zga "head" ["self"] (sp_rule_head K):=⟨_,_,ok_rule_head zSa nb,zQa.cl,zRd,zdb⟩
 have cm_head_BesideRule:CalM l.prog w K mg base CX0 1 zba "head" ["self"] (sp_rule_head K):=⟨_,_,ok_rule_head zSa nb,zIa.cl,zgd,zdb⟩
 have cm_head_AboveRule:CalM l.prog w K mg base CX0 1 zca "head" ["self"] (sp_rule_head K):=⟨_,_,ok_rule_head zSa nb,zKa.cl,zyd,zdb⟩
 have cm_head_TurnRule:CalM l.prog w K mg base CX0 1 zfa "head" ["self"] (sp_rule_head K):=⟨_,_,ok_rule_head zSa nb,zRa.cl,zUd,zdb⟩
 have cp_told:CalP l.prog w K mg base CX0 2 "told" (oTold R):=calP4 ⟨_,_,_,ok_cell_told zDb zQa.cl rk.a0 cm_head_CellRule,zQa.cl,zSd,zXe⟩ ⟨_,_,_,ok_beside_told zlb zIa.cl rk.a1 cm_head_BesideRule,zIa.cl,zhd,zxd⟩ ⟨_,_,_,ok_above_told zqb zKa.cl rk.a2 cm_head_AboveRule,zKa.cl,zzd,zTd⟩ ⟨_,_,_,ok_turn_told zEb nb zRa.cl rk.a3 cm_head_TurnRule,zRa.cl,zVd,zYe⟩
 have cp_parts:CalP l.prog w K mg base CX0 1 "parts" (oParts K R):=calP4 ⟨_,_,_,ok_rule_parts zLa nb,zQa.cl,zwd,zXa⟩ ⟨_,_,_,ok_rule_parts zLa nb,zIa.cl,zOc,zXa⟩ ⟨_,_,_,ok_rule_parts zLa nb,zKa.cl,zid,zXa⟩ ⟨_,_,_,ok_rule_parts zLa nb,zRa.cl,zAd,zXa⟩
 have c_are_signs:Cal l.prog w K mg base CX0 2 "are_signs" ["text"] (sp_are_signs):=⟨_,_,ok_are_signs F3 nb m_MOST_SIGNS m_SMALLS c_only_of,W.mg_of X G a3,k3,b3⟩
 have c_check_made_of:Cal l.prog w K mg base (CX1 l.prog w) 3 "check_made_of" ["signs","start","rules"] (sp_check_made_of R zaa):=⟨_,_,ok_check_made_of F4 nb rk rk4 m_MOST_RULES zmb zja zna c_are_signs c_is_name,W.mg_of X G a4,k4,b4⟩
 have c_numbers_by_name:Cal l.prog w K mg base CX0 2 "numbers_by_name" ["start","rules"] (sp_numbers_by_name K R):=⟨_,_,ok_numbers_by_name F5 nb rk cp_parts,W.mg_of X G a5,k5,b5⟩
 have zhc:CalK l.prog w K mg base (CX1 l.prog w) 4 "Grammar" zda ["self","signs","start","rules"] (sp_gram_init K R zaa):=⟨_,_,ok_gram_init zfb nb m_MOST_NAMES zja zna c_check_made_of c_numbers_by_name,zSg,zJg,zjd⟩
 have cm_rules:CalM l.prog w K mg base CX0 1 zda "rules" ["self"] (sp_gram_rules R zda):=⟨_,_,ok_gram_rules zFb nb zpa.cl gk.na,zpa.cl,zWd,zZe⟩
 have cm_rule:CalM l.prog w K mg base CX0 1 zda "rule" ["self","k"] (sp_gram_rule R zda):=⟨_,_,ok_gram_rule zec nb zpa.cl gk.na,zpa.cl,zaf,zFf⟩
 have cm_many:CalM l.prog w K mg base CX0 1 zda "many" ["self"] (sp_gram_many R zda):=⟨_,_,ok_gram_many zfc nb zpa.cl gk.na,zpa.cl,zbf,zGf⟩
 have cm_names:CalM l.prog w K mg base CX0 1 zda "names" ["self"] (sp_gram_names R zda):=⟨_,_,ok_gram_names zGb nb zpa.cl gk.na,zpa.cl,zXd,zcf⟩
 have cm_told:CalM l.prog w K mg base CX0 3 zda "told" ["self"] (sp_gram_told R zda):=⟨_,_,ok_gram_told zgc nb zpa.cl gk.na cp_told,zpa.cl,zdf,zHf⟩
 have zka:Cal l.prog w K mg base CX0 1 "_law_cell" ["_law_script","_law_k"] (sp_l_cell K):=⟨_,_,ok_l_cell F6 nb,W.mg_of X G a6,k6,b6⟩
 have zPc:Cal l.prog w K mg base CX0 1 "_law_whole" ["_law_found"] (sp_l_whole):=⟨_,_,ok_l_whole F7 nb,W.mg_of X G a7,k7,b7⟩
 have zSc:Cal l.prog w K mg base CX0 1 "_law_signs" ["_law_cell_here","_law_most"] (sp_l_signs):=⟨_,_,ok_l_signs F8 nb,W.mg_of X G a8,k8,b8⟩
 have zRc:Cal l.prog w K mg base CX0 1 "_law_names" ["_law_cell_here"] (sp_l_names):=⟨_,_,ok_l_names F9 nb,W.mg_of X G a9,k9,b9⟩
 have zib:Cal l.prog w K mg base CX0 6 "_law_rule_made" ["_law_told_here"] (sp_l_rule R):=⟨_,_,ok_l_rule F10 nb rk zHb zgb znb zIb,W.mg_of X G a10,k10,b10⟩
 have zqa:Cal l.prog w K mg base CX0 1 "_law_parts" ["_law_told_here"] (sp_l_parts):=⟨_,_,ok_l_parts F11 nb,W.mg_of X G a11,k11,b11⟩
 have zMa:Cal l.prog w K mg base CX0 1 "_law_drawn_rule" ["_law_cell_here","_law_names_here","_law_signs_here"] (sp_l_drawn_rule):=⟨_,_,ok_l_drawn_rule F12 nb,W.mg_of X G a12,k12,b12⟩
 have zTc:Cal l.prog w K mg base CX0 2 "_law_rules" ["_law_script","_law_names_here","_law_signs_here"] (sp_l_rules K):=⟨_,_,ok_l_rules F13 nb zka zMa,W.mg_of X G a13,k13,b13⟩
 have zya:Cal l.prog w K mg base CX0 2 "_law_numbers_of" ["_law_rules_here","_law_count"] (sp_l_numbers_of):=⟨_,_,ok_l_numbers_of F14 nb zqa,W.mg_of X G a14,k14,b14⟩
 have zDd:Cal l.prog w K mg base CX0 1 "_law_full" ["_law_levels","_law_numbers"] (sp_l_full):=⟨_,_,ok_l_full F15 nb,W.mg_of X G a15,k15,b15⟩
 have zEd:Cal l.prog w K mg base CX0 3 "_law_base" ["_law_script","_law_rules_here","_law_cell_here"] (sp_l_base K):=⟨_,_,ok_l_base F16 nb zka zya zDd,W.mg_of X G a16,k16,b16⟩
 have zcb:Cal l.prog w K mg base CX0 3 "_law_made_whole" ["_law_rules_here","_law_words"] (sp_l_made_whole):=⟨_,_,ok_l_made_whole F17 nb zqa zya,W.mg_of X G a17,k17,b17⟩
 have zic:Cal l.prog w K mg base CX0 1 "_law_spoilt" ["_law_words","_law_cell_here","_law_many"] (sp_l_spoilt):=⟨_,_,ok_l_spoilt F18 nb,W.mg_of X G a18,k18,b18⟩
 have zhb:Cal l.prog w K mg base CX0 1 "_law_number_of" ["_law_word","_law_many"] (sp_l_number_of):=⟨_,_,ok_l_number_of F19 nb,W.mg_of X G a19,k19,b19⟩
 have zff:Cal l.prog w K mg base CX0 2 "_law_due" ["_law_rules_here","_law_words"] (sp_l_due):=⟨_,_,ok_l_due F20 nb zqa zhb,W.mg_of X G a20,k20,b20⟩
 have zFd:Cal l.prog w K mg base CX0 2 "_law_tree" ["_law_rules_here","_law_words"] (sp_l_tree):=⟨_,_,ok_l_tree F21 nb zqa,W.mg_of X G a21,k21,b21⟩
 have c_grown:Cal l.prog w K mg base CX0 2 "grown" ["grammar","numbers"] (sp_grown R zda):=⟨_,_,ok_grown F22 nb rk cp_parts cm_rule,W.mg_of X G a22,k22,b22⟩
 have c_read_tree:Cal l.prog w K mg base (CX1 l.prog w) 4 "read_tree" ["grammar","text"] (sp_read_tree R zda C_NoWord):=⟨_,_,ok_read_tree F23 nb rk m_MOST_NUMBERS m_MOST_WITHIN m_NoWord xi_NoWord cp_parts cm_rule cm_many c_grown,W.mg_of X G a23,k23,b23⟩
 have zJb:Cal l.prog w K mg base CX0 7 "_law_grammar" ["_law_rules_here","_law_names_here","_law_signs_here"] (sp_l_grammar R zda):=⟨_,_,ok_l_grammar F24 nb gk zib zhc,W.mg_of X G a24,k24,b24⟩
 have zQc:Cal l.prog w K mg base CX0 2 "_law_at_of" ["_law_error"] (sp_l_at_of C_NoWord):=⟨_,_,ok_l_at_of F25 nb m_NoPicture zef zja m_NoName m_NoNumber m_NoRow zta m_NoText m_NoTree m_NoWord m_TooMany xt_NoWord xh_NoWord xw_NoWord kw0 kw1 kw2 zPc,W.mg_of X G a25,k25,b25⟩
 have zjc:Cal l.prog w K mg base CX0 5 "_law_told" ["_law_grammar_here","_law_text","_law_due_here","_law_tree_here"] (sp_l_told R zda):=⟨_,_,ok_l_told F26 nb m_QuiltError xc_QuiltError rfl xo_NoWord und_NoWord_QuiltError c_read_tree zQc,W.mg_of X G a26,k26,b26⟩
 exact ok_law F27 nb zka zRc zSc zTc zEd zcb zic zff zFd zJb zjc
theorem walk {l:W.OpenLaw} {q:Program} {loose:List Str} {XP:(Str→Option Value)→Heap→Prop} {YP:World→Heap→Prop} {d:DefRec} {K:Params→W.Frag} (hn:l.most=some 63) (hdf:d.params.defaults=[])
  (hY:∀ (w:World) (h:Heap),YP w h→(K w.params).In h)
  (F:∀ (w:World) (mg:Str→Option Value) (fa:Addr) (h:Heap),(K w.params).In h→h.Ns mainGlobals mg→mg d.name=some (.ref fa) →
   ∃ fd:FuncData,(∀ (s:Shared) (u:Value),BindsTo s fd ⟨[u],[]⟩ [("_law_script",u)])∧∀ base:Heap,(K w.params).In base→base.Ns mainGlobals mg→FnOk l.prog w (K w.params) mg base CX0 8 fa fd ["_law_script"] (sp_law (K w.params))) :
  W.WalkO q loose XP YP l.row.toRowW d [] (fun f vs=>PySem.call f vs):=
 L2.walk_of (n:=63) (k:=8) (x:="_law_script") (CX:=fun _=>CX0) (sp:=fun w=>sp_law (K w.params)) hn (by decide) hdf ⟨rfl,by decide,by decide⟩ hY F (fun _ _ a ns hl _ hS=>⟨a,ns,rfl,hS,fun _=>rfl⟩) fun _ _ _ _ _ z=>z
end Q18
open PySem PySem.W PyProof.Rows
local macro_rules | `(tactic| walk_at "kk")=>`(tactic| first | k_is | kernel_rfl | rfl | decide +kernel)
set_option maxRecDepth 100000 in
set_option maxHeartbeats 0 in
theorem PySem.Challenge.cw_quiltlaw_k18_words_that_write_no_tree_holds : PySem.Challenge.rw_quiltlaw_k18_words_that_write_no_tree.Holds := by
 w_on;o_law;k_head;(case hw=>w_witness2)
 k_fill
 refine Q18.walk (l:=PySem.Challenge.rw_quiltlaw_k18_words_that_write_no_tree) rfl rfl (fun w h Y=>PySem.W.kIn_of Y) ?F
 case F=>
  intro w mg fa h KX G hmg
  refine' Q18.all_mk KX G hmg ?a1 ?l1 ?c1 ?k1 ?a2 ?l2 ?c2 ?k2 ?a3 ?l3 ?c3 ?k3 ?a4 ?l4 ?c4 ?k4 ?a5 ?l5 ?c5 ?k5 ?a6 ?l6 ?c6 ?k6 ?a7 ?l7 ?c7 ?k7 ?a8 ?l8 ?c8 ?k8 ?a9 ?l9 ?c9 ?k9 ?a10 ?l10 ?c10 ?k10 ?a11 ?l11 ?c11 ?k11 ?a12 ?l12 ?c12 ?k12 ?a13 ?l13 ?c13 ?k13 ?a14 ?l14 ?c14 ?k14 ?a15 ?l15 ?c15 ?k15 ?a16 ?l16 ?c16 ?k16 ?a17 ?l17 ?c17 ?k17 ?a18 ?l18 ?c18 ?k18 ?a19 ?l19 ?c19 ?k19 ?a20 ?l20 ?c20 ?k20 ?a21 ?l21 ?c21 ?k21 ?a22 ?l22 ?c22 ?k22 ?a23 ?l23 ?c23 ?k23 ?a24 ?l24 ?c24 ?k24 ?a25 ?l25 ?c25 ?k25 ?a26 ?l26 ?c26 ?k26 ?a27 ?l27 ?c27 ?k27 ?xQuiltError ?xlQuiltError ?xeQuiltError ?xgaQuiltError ?xghQuiltError ?xmbQuiltError ?xmoQuiltError ?xhaQuiltError ?xhn ?xtk ?xNoRule ?xlNoRule ?xeNoRule ?xgaNoRule ?xghNoRule ?xmbNoRule ?xmoNoRule ?xhaNoRule ?xNoGrammar ?xlNoGrammar ?xeoNoGrammar ?xgaNoGrammar ?xghNoGrammar ?xmbNoGrammar ?xmoNoGrammar ?xhaNoGrammar ?xfiNoGrammar ?xftNoGrammar ?xflNoGrammar ?xfcNoGrammar ?xfkNoGrammar ?xsaNoGrammar ?xstNoGrammar ?xhdNoGrammar ?xobNoGrammar ?xneNoGrammar ?xw_NoGrammar ?xmNoGrammar_NoGrammar ?xCAPITALS ?xSMALLS ?xLONGEST_NAME ?xRule ?spRule ?rdRule ?fcRule___init__ ?mlRule___init__ ?mcRule___init__ ?mkRule___init__ ?mfRule___init__ ?xCellRule ?pgCellRule ?hdCellRule ?poCellRule ?saCellRule ?haCellRule ?moCellRule ?naCellRule_name ?naCellRule_cost ?naCellRule_part_names ?naCellRule_sign ?miCellRule ?fiCellRule ?mlCellRule___init__ ?mcCellRule___init__ ?mkCellRule___init__ ?mfCellRule___init__ ?kcCellRule ?rCellRule ?sCellRule ?xBesideRule ?pgBesideRule ?hdBesideRule ?poBesideRule ?saBesideRule ?haBesideRule ?moBesideRule ?naBesideRule_name ?naBesideRule_cost ?naBesideRule_part_names ?naBesideRule_one ?naBesideRule_other ?miBesideRule ?fiBesideRule ?mlBesideRule___init__ ?mcBesideRule___init__ ?mkBesideRule___init__ ?mfBesideRule___init__ ?kcBesideRule ?rBesideRule ?sBesideRule ?xAboveRule ?pgAboveRule ?hdAboveRule ?poAboveRule ?saAboveRule ?haAboveRule ?moAboveRule ?naAboveRule_name ?naAboveRule_cost ?naAboveRule_part_names ?naAboveRule_one ?naAboveRule_other ?miAboveRule ?fiAboveRule ?mlAboveRule___init__ ?mcAboveRule___init__ ?mkAboveRule___init__ ?mfAboveRule___init__ ?kcAboveRule ?rAboveRule ?sAboveRule ?xTurnRule ?pgTurnRule ?hdTurnRule ?poTurnRule ?saTurnRule ?haTurnRule ?moTurnRule ?naTurnRule_name ?naTurnRule_cost ?naTurnRule_part_names ?naTurnRule_part ?naTurnRule_turning ?miTurnRule ?fiTurnRule ?mlTurnRule___init__ ?mcTurnRule___init__ ?mkTurnRule___init__ ?mfTurnRule___init__ ?kcTurnRule ?rTurnRule ?sTurnRule ?xMOST_SIGNS ?xMOST_RULES ?xMOST_NAMES ?q01 ?q02 ?q03 ?q10 ?q12 ?q13 ?q20 ?q21 ?q23 ?q30 ?q31 ?q32 ?fmCellRule_head ?mlRule_head ?mcRule_head ?mkRule_head ?mfRule_head ?fmCellRule_parts ?mlRule_parts ?mcRule_parts ?mkRule_parts ?mfRule_parts ?fmCellRule_told ?mlCellRule_told ?mcCellRule_told ?mkCellRule_told ?mfCellRule_told ?fmBesideRule_head ?fmBesideRule_parts ?fmBesideRule_told ?mlBesideRule_told ?mcBesideRule_told ?mkBesideRule_told ?mfBesideRule_told ?fmAboveRule_head ?fmAboveRule_parts ?fmAboveRule_told ?mlAboveRule_told ?mcAboveRule_told ?mkAboveRule_told ?mfAboveRule_told ?fmTurnRule_head ?fmTurnRule_parts ?fmTurnRule_told ?mlTurnRule_told ?mcTurnRule_told ?mkTurnRule_told ?mfTurnRule_told ?xGrammar ?pgGrammar ?hdGrammar ?poGrammar ?saGrammar ?haGrammar ?moGrammar ?naGrammar_signs ?naGrammar_start ?naGrammar_kept ?naGrammar_numbers ?miGrammar ?fiGrammar ?mlGrammar___init__ ?mcGrammar___init__ ?mkGrammar___init__ ?mfGrammar___init__ ?kcGrammar ?fmGrammar_rules ?mlGrammar_rules ?mcGrammar_rules ?mkGrammar_rules ?mfGrammar_rules ?fmGrammar_rule ?mlGrammar_rule ?mcGrammar_rule ?mkGrammar_rule ?mfGrammar_rule ?fmGrammar_many ?mlGrammar_many ?mcGrammar_many ?mkGrammar_many ?mfGrammar_many ?fmGrammar_names ?mlGrammar_names ?mcGrammar_names ?mkGrammar_names ?mfGrammar_names ?fmGrammar_told ?mlGrammar_told ?mcGrammar_told ?mkGrammar_told ?mfGrammar_told ?xNoWord ?xlNoWord ?xeoNoWord ?xgaNoWord ?xghNoWord ?xmbNoWord ?xmoNoWord ?xhaNoWord ?xfiNoWord ?xftNoWord ?xflNoWord ?xfcNoWord ?xfkNoWord ?xsaNoWord ?xstNoWord ?xhdNoWord ?xobNoWord ?xneNoWord ?xw_NoWord ?xmNoWord_QuiltError ?xNoFit ?xNoName ?xNoNumber ?xNoPicture ?xNoRow ?xNoText ?xNoTree ?xTooMany ?kw0 ?kw1 ?kw2 ?xMOST_NUMBERS ?xMOST_WITHIN ?z0 ?z1 ?z2 ?z3 ?z4 ?z5 ?z6 ?z7 ?z8 ?z9 ?z10 ?z11 ?z12 ?z13 ?z14 ?z15 ?z16 ?z17 ?z18
  (case a1=>k_is);(case l1=>k_is);(case c1=>k_is);(case k1=>k_is);(case a2=>k_is);(case l2=>k_is);(case c2=>k_is);(case k2=>k_is)
  (case a3=>k_is);(case l3=>k_is);(case c3=>k_is);(case k3=>k_is);(case a4=>k_is);(case l4=>k_is);(case c4=>k_is);(case k4=>k_is)
  (case a5=>k_is);(case l5=>k_is);(case c5=>k_is);(case k5=>k_is);(case a6=>k_is);(case l6=>k_is);(case c6=>k_is);(case k6=>k_is)
  (case a7=>k_is);(case l7=>k_is);(case c7=>k_is);(case k7=>k_is);(case a8=>k_is);(case l8=>k_is);(case c8=>k_is);(case k8=>k_is)
  (case a9=>k_is);(case l9=>k_is);(case c9=>k_is);(case k9=>k_is);(case a10=>k_is);(case l10=>k_is);(case c10=>k_is);(case k10=>k_is)
  (case a11=>k_is);(case l11=>k_is);(case c11=>k_is);(case k11=>k_is);(case a12=>k_is);(case l12=>k_is);(case c12=>k_is);(case k12=>k_is)
  (case a13=>k_is);(case l13=>k_is);(case c13=>k_is);(case k13=>k_is);(case a14=>k_is);(case l14=>k_is);(case c14=>k_is);(case k14=>k_is)
  (case a15=>k_is);(case l15=>k_is);(case c15=>k_is);(case k15=>k_is);(case a16=>k_is);(case l16=>k_is);(case c16=>k_is);(case k16=>k_is)
  (case a17=>k_is);(case l17=>k_is);(case c17=>k_is);(case k17=>k_is);(case a18=>k_is);(case l18=>k_is);(case c18=>k_is);(case k18=>k_is)
  (case a19=>k_is);(case l19=>k_is);(case c19=>k_is);(case k19=>k_is);(case a20=>k_is);(case l20=>k_is);(case c20=>k_is);(case k20=>k_is)
  (case a21=>k_is);(case l21=>k_is);(case c21=>k_is);(case k21=>k_is);(case a22=>k_is);(case l22=>k_is);(case c22=>k_is);(case k22=>k_is)
  (case a23=>k_is);(case l23=>k_is);(case c23=>k_is);(case k23=>k_is);(case a24=>k_is);(case l24=>k_is);(case c24=>k_is);(case k24=>k_is)
  (case a25=>k_is);(case l25=>k_is);(case c25=>k_is);(case k25=>k_is);(case a26=>k_is);(case l26=>k_is);(case c26=>k_is);(case k26=>k_is)
  (case a27=>k_is);(case l27=>k_is);(case c27=>k_is);(case k27=>k_is);(case xQuiltError=>walk_at "kk");(case xlQuiltError=>walk_at "kk");(case xeQuiltError=>walk_at "kk");(case xgaQuiltError=>walk_at "kk")
  (case xghQuiltError=>walk_at "kk");(case xmbQuiltError=>walk_at "kk");(case xmoQuiltError=>walk_at "kk");(case xhaQuiltError=>walk_at "kk");(case xhn=>walk_at "kk");(case xtk=>walk_at "kk");(case xNoRule=>walk_at "kk");(case xlNoRule=>walk_at "kk")
  (case xeNoRule=>walk_at "kk");(case xgaNoRule=>walk_at "kk");(case xghNoRule=>walk_at "kk");(case xmbNoRule=>walk_at "kk");(case xmoNoRule=>walk_at "kk");(case xhaNoRule=>walk_at "kk");(case xNoGrammar=>walk_at "kk");(case xlNoGrammar=>walk_at "kk")
  (case xeoNoGrammar=>walk_at "kk");(case xgaNoGrammar=>walk_at "kk");(case xghNoGrammar=>walk_at "kk");(case xmbNoGrammar=>walk_at "kk");(case xmoNoGrammar=>walk_at "kk");(case xhaNoGrammar=>walk_at "kk");(case xfiNoGrammar=>walk_at "kk");(case xftNoGrammar=>walk_at "kk")
  (case xflNoGrammar=>walk_at "kk");(case xfcNoGrammar=>walk_at "kk");(case xfkNoGrammar=>walk_at "kk");(case xsaNoGrammar=>walk_at "kk");(case xstNoGrammar=>walk_at "kk");(case xhdNoGrammar=>walk_at "kk");(case xobNoGrammar=>walk_at "kk");(case xneNoGrammar=>walk_at "kk")
  (case xw_NoGrammar=>walk_at "kk");(case xmNoGrammar_NoGrammar=>walk_at "kk");(case xCAPITALS=>walk_at "kk");(case xSMALLS=>walk_at "kk");(case xLONGEST_NAME=>walk_at "kk");(case xRule=>walk_at "kk");(case spRule=>walk_at "kk");(case rdRule=>walk_at "kk")
  (case fcRule___init__=>walk_at "kk");(case mlRule___init__=>walk_at "kk");(case mcRule___init__=>walk_at "kk");(case mkRule___init__=>walk_at "kk");(case mfRule___init__=>walk_at "kk");(case xCellRule=>walk_at "kk");(case pgCellRule=>walk_at "kk");(case hdCellRule=>walk_at "kk")
  (case poCellRule=>walk_at "kk");(case saCellRule=>walk_at "kk");(case haCellRule=>walk_at "kk");(case moCellRule=>walk_at "kk");(case naCellRule_name=>walk_at "kk");(case naCellRule_cost=>walk_at "kk");(case naCellRule_part_names=>walk_at "kk");(case naCellRule_sign=>walk_at "kk")
  (case miCellRule=>walk_at "kk");(case fiCellRule=>walk_at "kk");(case mlCellRule___init__=>walk_at "kk");(case mcCellRule___init__=>walk_at "kk");(case mkCellRule___init__=>walk_at "kk");(case mfCellRule___init__=>walk_at "kk");(case kcCellRule=>walk_at "kk");(case rCellRule=>walk_at "kk")
  (case sCellRule=>walk_at "kk");(case xBesideRule=>walk_at "kk");(case pgBesideRule=>walk_at "kk");(case hdBesideRule=>walk_at "kk");(case poBesideRule=>walk_at "kk");(case saBesideRule=>walk_at "kk");(case haBesideRule=>walk_at "kk");(case moBesideRule=>walk_at "kk")
  (case naBesideRule_name=>walk_at "kk");(case naBesideRule_cost=>walk_at "kk");(case naBesideRule_part_names=>walk_at "kk");(case naBesideRule_one=>walk_at "kk");(case naBesideRule_other=>walk_at "kk");(case miBesideRule=>walk_at "kk");(case fiBesideRule=>walk_at "kk");(case mlBesideRule___init__=>walk_at "kk")
  (case mcBesideRule___init__=>walk_at "kk");(case mkBesideRule___init__=>walk_at "kk");(case mfBesideRule___init__=>walk_at "kk");(case kcBesideRule=>walk_at "kk");(case rBesideRule=>walk_at "kk");(case sBesideRule=>walk_at "kk");(case xAboveRule=>walk_at "kk");(case pgAboveRule=>walk_at "kk")
  (case hdAboveRule=>walk_at "kk");(case poAboveRule=>walk_at "kk");(case saAboveRule=>walk_at "kk");(case haAboveRule=>walk_at "kk");(case moAboveRule=>walk_at "kk");(case naAboveRule_name=>walk_at "kk");(case naAboveRule_cost=>walk_at "kk");(case naAboveRule_part_names=>walk_at "kk")
  (case naAboveRule_one=>walk_at "kk");(case naAboveRule_other=>walk_at "kk");(case miAboveRule=>walk_at "kk");(case fiAboveRule=>walk_at "kk");(case mlAboveRule___init__=>walk_at "kk");(case mcAboveRule___init__=>walk_at "kk");(case mkAboveRule___init__=>walk_at "kk");(case mfAboveRule___init__=>walk_at "kk")
  (case kcAboveRule=>walk_at "kk");(case rAboveRule=>walk_at "kk");(case sAboveRule=>walk_at "kk");(case xTurnRule=>walk_at "kk");(case pgTurnRule=>walk_at "kk");(case hdTurnRule=>walk_at "kk");(case poTurnRule=>walk_at "kk");(case saTurnRule=>walk_at "kk")
  (case haTurnRule=>walk_at "kk");(case moTurnRule=>walk_at "kk");(case naTurnRule_name=>walk_at "kk");(case naTurnRule_cost=>walk_at "kk");(case naTurnRule_part_names=>walk_at "kk");(case naTurnRule_part=>walk_at "kk");(case naTurnRule_turning=>walk_at "kk");(case miTurnRule=>walk_at "kk")
  (case fiTurnRule=>walk_at "kk");(case mlTurnRule___init__=>walk_at "kk");(case mcTurnRule___init__=>walk_at "kk");(case mkTurnRule___init__=>walk_at "kk");(case mfTurnRule___init__=>walk_at "kk");(case kcTurnRule=>walk_at "kk");(case rTurnRule=>walk_at "kk");(case sTurnRule=>walk_at "kk")
  (case xMOST_SIGNS=>walk_at "kk");(case xMOST_RULES=>walk_at "kk");(case xMOST_NAMES=>walk_at "kk");(case q01=>walk_at "kk");(case q02=>walk_at "kk");(case q03=>walk_at "kk");(case q10=>walk_at "kk");(case q12=>walk_at "kk")
  (case q13=>walk_at "kk");(case q20=>walk_at "kk");(case q21=>walk_at "kk");(case q23=>walk_at "kk");(case q30=>walk_at "kk");(case q31=>walk_at "kk");(case q32=>walk_at "kk");(case fmCellRule_head=>walk_at "kk")
  (case mlRule_head=>walk_at "kk");(case mcRule_head=>walk_at "kk");(case mkRule_head=>walk_at "kk");(case mfRule_head=>walk_at "kk");(case fmCellRule_parts=>walk_at "kk");(case mlRule_parts=>walk_at "kk");(case mcRule_parts=>walk_at "kk");(case mkRule_parts=>walk_at "kk")
  (case mfRule_parts=>walk_at "kk");(case fmCellRule_told=>walk_at "kk");(case mlCellRule_told=>walk_at "kk");(case mcCellRule_told=>walk_at "kk");(case mkCellRule_told=>walk_at "kk");(case mfCellRule_told=>walk_at "kk");(case fmBesideRule_head=>walk_at "kk");(case fmBesideRule_parts=>walk_at "kk")
  (case fmBesideRule_told=>walk_at "kk");(case mlBesideRule_told=>walk_at "kk");(case mcBesideRule_told=>walk_at "kk");(case mkBesideRule_told=>walk_at "kk");(case mfBesideRule_told=>walk_at "kk");(case fmAboveRule_head=>walk_at "kk");(case fmAboveRule_parts=>walk_at "kk");(case fmAboveRule_told=>walk_at "kk")
  (case mlAboveRule_told=>walk_at "kk");(case mcAboveRule_told=>walk_at "kk");(case mkAboveRule_told=>walk_at "kk");(case mfAboveRule_told=>walk_at "kk");(case fmTurnRule_head=>walk_at "kk");(case fmTurnRule_parts=>walk_at "kk");(case fmTurnRule_told=>walk_at "kk");(case mlTurnRule_told=>walk_at "kk")
  (case mcTurnRule_told=>walk_at "kk");(case mkTurnRule_told=>walk_at "kk");(case mfTurnRule_told=>walk_at "kk");(case xGrammar=>walk_at "kk");(case pgGrammar=>walk_at "kk");(case hdGrammar=>walk_at "kk");(case poGrammar=>walk_at "kk");(case saGrammar=>walk_at "kk")
  (case haGrammar=>walk_at "kk");(case moGrammar=>walk_at "kk");(case naGrammar_signs=>walk_at "kk");(case naGrammar_start=>walk_at "kk");(case naGrammar_kept=>walk_at "kk");(case naGrammar_numbers=>walk_at "kk");(case miGrammar=>walk_at "kk");(case fiGrammar=>walk_at "kk")
  (case mlGrammar___init__=>walk_at "kk");(case mcGrammar___init__=>walk_at "kk");(case mkGrammar___init__=>walk_at "kk");(case mfGrammar___init__=>walk_at "kk");(case kcGrammar=>walk_at "kk");(case fmGrammar_rules=>walk_at "kk");(case mlGrammar_rules=>walk_at "kk");(case mcGrammar_rules=>walk_at "kk")
  (case mkGrammar_rules=>walk_at "kk");(case mfGrammar_rules=>walk_at "kk");(case fmGrammar_rule=>walk_at "kk");(case mlGrammar_rule=>walk_at "kk");(case mcGrammar_rule=>walk_at "kk");(case mkGrammar_rule=>walk_at "kk");(case mfGrammar_rule=>walk_at "kk");(case fmGrammar_many=>walk_at "kk")
  (case mlGrammar_many=>walk_at "kk");(case mcGrammar_many=>walk_at "kk");(case mkGrammar_many=>walk_at "kk");(case mfGrammar_many=>walk_at "kk");(case fmGrammar_names=>walk_at "kk");(case mlGrammar_names=>walk_at "kk");(case mcGrammar_names=>walk_at "kk");(case mkGrammar_names=>walk_at "kk")
  (case mfGrammar_names=>walk_at "kk");(case fmGrammar_told=>walk_at "kk");(case mlGrammar_told=>walk_at "kk");(case mcGrammar_told=>walk_at "kk");(case mkGrammar_told=>walk_at "kk");(case mfGrammar_told=>walk_at "kk");(case xNoWord=>walk_at "kk");(case xlNoWord=>walk_at "kk")
  (case xeoNoWord=>walk_at "kk");(case xgaNoWord=>walk_at "kk");(case xghNoWord=>walk_at "kk");(case xmbNoWord=>walk_at "kk");(case xmoNoWord=>walk_at "kk");(case xhaNoWord=>walk_at "kk");(case xfiNoWord=>walk_at "kk");(case xftNoWord=>walk_at "kk")
  (case xflNoWord=>walk_at "kk");(case xfcNoWord=>walk_at "kk");(case xfkNoWord=>walk_at "kk");(case xsaNoWord=>walk_at "kk");(case xstNoWord=>walk_at "kk");(case xhdNoWord=>walk_at "kk");(case xobNoWord=>walk_at "kk");(case xneNoWord=>walk_at "kk")
  (case xw_NoWord=>walk_at "kk");(case xmNoWord_QuiltError=>walk_at "kk");(case xNoFit=>walk_at "kk");(case xNoName=>walk_at "kk");(case xNoNumber=>walk_at "kk");(case xNoPicture=>walk_at "kk");(case xNoRow=>walk_at "kk");(case xNoText=>walk_at "kk")
  (case xNoTree=>walk_at "kk");(case xTooMany=>walk_at "kk");(case kw0=>walk_at "kk");(case kw1=>walk_at "kk");(case kw2=>walk_at "kk");(case xMOST_NUMBERS=>walk_at "kk");(case xMOST_WITHIN=>walk_at "kk");(case z0=>k_is)
  (case z1=>k_is);(case z2=>k_is);(case z3=>k_is);(case z4=>k_is);(case z5=>k_is);(case z6=>k_is);(case z7=>k_is);(case z8=>k_is)
  (case z9=>k_is);(case z10=>k_is);(case z11=>k_is);(case z12=>k_is);(case z13=>k_is);(case z14=>k_is);(case z15=>k_is);(case z16=>k_is)
  (case z17=>k_is);(case z18=>k_is)
