import PyProof.Rows.All
import Wide.All
import OpenK.AllK
import Wide.FinOn
import Lean
import PyProof.EqAt
import PyProof.EqKinds
import PyProof.TupleCall
import PyProof.CollectIter
import PyProof.JoinWalk
import PyProof.StrOps
import PyProof.ListOps
import PyProof.StrLawsJoin
import KE.KRevIter
import PyProof.StrLawsFirst
import PyProof.Rows.StrNews2
import PyProof.StrLawsTight
import PyProof.StrLawsChain
import KE.KIntText
import KE.IntTextLaws
import PyProof.ListStr
import KE.KDictLaws
import KE.KDictList
import PyProof.Rows.SetFrom
import PyProof.FitsReplace
import KE.KEqDict
import PyProof.Rows.SumAny
import PyProof.Rows.CallKwBuiltin
import PyProof.EnumMake
import PyProof.TupleIter
import PyProof.Rows.TupIter
import PyProof.FactsAll.range_2
import PyProof.AutoSeq1
import PySem.Challenge.RW_quiltlaw_k17_trees_written_and_read
namespace PySem.W.Fast
def tw15446322638369512448:=0
def tw230869879866291264:=0
def tw572271518983267392:=0
def tw4992795697029934176:=0
def tw16628341807137247392:=0
def tw11133313864416573632:=0
def tw3592064075269345568:=0
def tw7098878518082429312:=0
def tw13254493147306080768:=0
def tw7614133633795338784:=0
def tw2681554548038054432:=0
def tw14606649237005210176:=0
def tw15150658578840208032:=0
def tw11496597636667175584:=0
def tw17673850368219775680:=0
def tw3457284709573739200:=0
def tw10836718503369108160:=0
def tw16455139864656263904:=0
def tw16746520333381712608:=0
def tw3810829029537325824:=0
def tw5508555865472405280:=0
def tw13764963862106558240:=0
def tw13799801245303358368:=0
def tw5365430975387729888:=0
def tw18407065545506936800:=0
def tw5453690440462605313:=0
def tw15090644973385370657:=0
def tw15121371805376404545:=0
def tw5013640772010250337:=0
def tw9548413700263364737:=0
def tw14131351726402727041:=0
def tw18308217687524756641:=0
def tw9522846667380260001:=0
def tw14564662851124275425:=0
def tw15542911987798989057:=0
def tw5172028900786043137:=0
def tw16365843353046360417:=0
def tw8027367285690598817:=0
def tw8991861872467541409:=0
def tw9962500742904689121:=0
def tw9611778178625987041:=0
def tw2628349659912628801:=0
def tw3119934756860017249:=0
def tw1435783756773846625:=0
def tw10751594560174335649:=0
def tw1202675201828907713:=0
def tw13910327462687744929:=0
def tw16832833782510135201:=0
def tw4805078004966107041:=0
def tw3033603229772229537:=0
def tw9699669793119979425:=0
def tw3610892657298918337:=0
def tw10049770186876629090:=0
def tw4335451595602115746:=0
def tw1683273517672306882:=0
def tw1588412737713907970:=0
def tw4244697974422859042:=0
def tw1042516321597216098:=0
def tw8869202703269303746:=0
def tw12254645167585937890:=0
def tw16304012287990707714:=0
def tw374084004589298210:=0
def tw16172378385699106498:=0
def tw15278440162336399074:=0
def tw15318946286231650050:=0
def tw3706320207223544706:=0
def tw6835467827407399842:=0
def tw3870976259212517282:=0
def tw11213020480613283843:=0
def tw11019950946972343363:=0
def tw7422681371970065635:=0
def tw15311456095132663043:=0
def tw1054346855950541059:=0
def tw15766386223320322563:=0
def tw17357986175927501475:=0
def tw17622376132678810371:=0
def tw9414928352304929571:=0
def tw15542200429179388739:=0
def tw17493831627280741187:=0
def tw2898585059691632515:=0
def tw6736217339657830339:=0
def tw14872982339052600356:=0
def tw10547043693195887748:=0
def tw9150596130048905540:=0
def tw13733645283654022628:=0
def tw12366635731577456132:=0
def tw4820939922393050660:=0
def tw18275181424280826436:=0
def tw15355078083553315524:=0
def tw10476600100351297220:=0
def tw2446355539627411268:=0
def tw3674459050259348388:=0
def tw8877143636829106116:=0
def tw12433324102391886788:=0
def tw9555398862699902021:=0
def tw6231822913502949445:=0
def tw4453263140686008421:=0
def tw7962659845592284261:=0
def tw16845599653696047333:=0
def tw9426715900634423589:=0
def tw7521548213192006981:=0
def tw6953709533316336965:=0
def tw498194653068108197:=0
def tw13169495037563177381:=0
def tw17418112469810588101:=0
def tw8224961604735977061:=0
def tw9967089579732787845:=0
def tw16167716891366935269:=0
def tw9659090290602994405:=0
def tw9338855553952308069:=0
def tw14008382332454754245:=0
def tw13264874019679357893:=0
def tw8848665208463750117:=0
def tw16794318279468042213:=0
def tw17035513841933204486:=0
def tw18128503872422054982:=0
def tw10444778770851267686:=0
def tw2708569209018102918:=0
def tw15589455015889156358:=0
def tw15284359535700248902:=0
def tw6935171805468338566:=0
def tw11945699733154736518:=0
def tw4948619137273161094:=0
def tw12553415714851122566:=0
def tw16165398548886418886:=0
def tw5705808474682341862:=0
def tw11467887450030886374:=0
def tw3403603960936173062:=0
def tw6810387729299758598:=0
def tw7868191309787553414:=0
def tw5247834928897993414:=0
def tw18250306450521222854:=0
def tw13965106485141215974:=0
def tw72540469875080006:=0
def tw15105935238109033318:=0
def tw9021762904404674438:=0
def tw3350473745395746726:=0
def tw6703401119438858182:=0
def tw14869137085602683846:=0
def tw7823745262083605511:=0
def tw11582436799589681159:=0
def tw10811897622694754311:=0
def tw14881051498966246439:=0
def tw18102187368867865831:=0
def tw5316297040046668007:=0
def tw8026666886730536167:=0
def tw9075095149575385351:=0
def tw4520795425102507335:=0
def tw341081627217292615:=0
def tw3299892042285150535:=0
def tw9531166384782714247:=0
def tw8935020089949572487:=0
def tw7830475016869828999:=0
def tw14708775161518789127:=0
def tw4286406996345838087:=0
def tw4985195754210729607:=0
def tw3874721822862711495:=0
def tw3891067523958933223:=0
def tw15806400693407869735:=0
def tw5907520353757938471:=0
def tw4969809389399995207:=0
def tw2526629090608456615:=0
def tw8112274910696654791:=0
def tw10857924863691273191:=0
def tw6829724757756263432:=0
def tw12136967098925051944:=0
def tw8904949667308336168:=0
def tw17475556033490448456:=0
def tw11984341609628274856:=0
def tw12251747305082475784:=0
def tw10564928676198319368:=0
def tw17767130201539342664:=0
def tw1637391923369683272:=0
def tw720825536866519464:=0
def tw3383849294372932008:=0
def tw14086103448647708072:=0
def tw17839569455287033352:=0
def tw1196794269221922408:=0
def tw13423209763353949960:=0
def tw18377869728644975432:=0
def tw16735357786106660712:=0
def tw8809436979044683624:=0
def tw13253160180276510632:=0
def tw10616812298537993225:=0
def tw1786253542140777481:=0
def tw2730044268551722089:=0
def tw7511810798509717609:=0
def tw1221310618678643817:=0
def tw8336240233416365225:=0
def tw15845747307672771785:=0
def tw12409519000202606793:=0
def tw18369492709396302057:=0
def tw13575111827101765865:=0
def tw6779174505359489289:=0
def tw11394322726058894601:=0
def tw6475181320208664905:=0
def tw14249025139407412809:=0
def tw9561174946820577897:=0
def tw16141113012940694121:=0
def tw4601241165797849737:=0
def tw11772528501816591081:=0
def tw6136060362751222633:=0
def tw17579679416136769513:=0
def tw8965166263350424618:=0
def tw4602356624044350538:=0
def tw8162868859913001066:=0
def tw7121817659098854634:=0
def tw11779596873438286122:=0
def tw17488356784200897898:=0
def tw9554712687879166346:=0
def tw11174002951822568938:=0
def tw13786916040777228778:=0
def tw10458701441181591050:=0
def tw5273946211248954026:=0
def tw7375874431135131338:=0
def tw15538044700024077066:=0
def tw12347196383723125514:=0
def tw14097541392363399978:=0
def tw13694286190733864778:=0
def tw3263027817602087818:=0
def tw15558104259105147818:=0
def tw2554937806866030506:=0
def tw12187224902612842442:=0
def tw5041299347345390570:=0
def tw13333560894089466923:=0
def tw6952166314751002859:=0
def tw5678195011007644971:=0
def tw11828708242978793771:=0
def tw13775713845193532747:=0
def tw6128206370163340651:=0
def tw14332706733800706475:=0
def tw14437253140847642059:=0
def tw7078335336901674507:=0
def tw11051654367577257547:=0
def tw6417941065276828299:=0
def tw5376939373188730571:=0
def tw8314751699283625675:=0
def tw15508362055772970731:=0
def tw8453875519756958443:=0
def tw11193282203347271499:=0
def tw8424960078458249067:=0
def tw132978597473380203:=0
def tw2142960112941962123:=0
def tw4770636657697687499:=0
def tw14505835398653424619:=0
def tw16387362708277049356:=0
def tw11346251286506953740:=0
def tw15733336257412049036:=0
def tw9888714603194723596:=0
def tw10614622004347002156:=0
def tw2427965028022020396:=0
def tw5129474655090273580:=0
def tw16551682858567243084:=0
def tw5489651132520425836:=0
def tw9158455211194563980:=0
def tw2936235205557846508:=0
def tw16528401496126556652:=0
def tw10153069201143767532:=0
def tw7841251933579822636:=0
def tw16615946797804377676:=0
def tw12537846581212849836:=0
def tw13776983376667267820:=0
def tw8090064943616271084:=0
def tw7096914032613391116:=0
def tw16223768893780642604:=0
def tw2335977482708733804:=0
def tw14727826708503028588:=0
def tw3436195414236862348:=0
def tw13046011630107821996:=0
def tw18041077160301554604:=0
def tw15559220349497480205:=0
def tw13094591802567734285:=0
def tw10590770884484097037:=0
def tw9727529421061235757:=0
def tw18110143400536785965:=0
def tw15272020807736860749:=0
def tw2546448669206008973:=0
def tw15135711069245513933:=0
def tw3056736034015792365:=0
def tw8501169747003252045:=0
def tw11740879959241086349:=0
def tw7141714621247754797:=0
def tw1410129129939117613:=0
def tw3745304254833642061:=0
def tw18040279511222444621:=0
def tw12341381843800433325:=0
def tw5887469890658613965:=0
def tw6536715752654786253:=0
def tw6378579189918445421:=0
def tw4178940425429360525:=0
def tw9272006815116096397:=0
def tw14016924001305741229:=0
def tw13022456092860478445:=0
def tw2035631253321696334:=0
def tw12099669447997467790:=0
def tw17188385690465262766:=0
def tw15498961280899247438:=0
def tw5237291497224291694:=0
def tw13956147811336782318:=0
def tw14889476334733761102:=0
def tw7596574168664301198:=0
def tw18174347749165603470:=0
def tw12039873912121145070:=0
def tw821647688575507214:=0
def tw9310173705886050158:=0
def tw3162662382711580526:=0
def tw9669009382032839887:=0
def tw16920103687024263375:=0
def tw14329786958216973519:=0
def tw11832871414129147119:=0
def tw9152092406885779695:=0
def tw17712238750470044911:=0
def tw2829174718399053135:=0
def tw2822975380633737551:=0
def tw10572052627982648719:=0
def tw5484129841643808239:=0
def tw10666705126883722831:=0
def tw6957914991757648463:=0
def tw9926227380073496207:=0
def tw14265613960777472687:=0
def tw1066229615921601231:=0
def tw14262360289230881487:=0
def tw10600530006895476463:=0
def tw2650038559701064431:=0
def tw8304939657844531983:=0
def tw12233907870819578639:=0
def tw14658751166392596303:=0
def tw9221196018229800815:=0
def tw5683125418572345295:=0
def tw1938712891345713168:=0
def tw18060263131516060720:=0
def tw9377447228753607760:=0
def tw7585638908836413552:=0
def tw12747562439226854544:=0
def tw8053377139223671984:=0
def tw2711788528434873552:=0
def tw12375110603302844688:=0
def tw1428375885353589104:=0
def tw2657905651595830672:=0
def tw6337603377477175728:=0
def tw16061054071159131664:=0
def tw16887178034474251792:=0
def tw1585394642800444976:=0
def tw3897846641379047120:=0
def tw16990818595127991024:=0
def tw6226850975454756624:=0
def tw14531108932950950736:=0
def tw13773734994829000592:=0
def tw1922351493385851921:=0
def tw17170725044408746033:=0
def tw1358943656238971985:=0
def tw15066238197040219217:=0
def tw6344297004139581585:=0
def tw2719370620968268977:=0
def tw13361591214418028785:=0
def tw5327830178793496817:=0
def tw6846322859321735441:=0
def tw17679853060648486257:=0
def tw16852084269821174193:=0
def tw12281978598507828657:=0
def tw5977352503225412145:=0
def tw7303451515718743633:=0
def tw15283482113176240753:=0
def tw885806132637843121:=0
def tw12819331180906613457:=0
def tw9916230503028219665:=0
def tw7607927394467993393:=0
def tw3893285790381014833:=0
def tw17262783727497943889:=0
def tw2244956042145687409:=0
def tw5472554678187846609:=0
def tw10034177955548219410:=0
def tw8164052719081727058:=0
def tw6033218156631127122:=0
def tw8456853653287705746:=0
def tw12969347228586918066:=0
def tw10904564803025007922:=0
def tw5766771484318441810:=0
def tw15843430464146622866:=0
def tw915478676721266162:=0
def tw15444716061844509458:=0
def tw7847624784177420082:=0
def tw16521639231263982450:=0
def tw11885249598907628466:=0
def tw9042296560567951314:=0
def tw16118700627134725171:=0
def tw1901452494530226323:=0
def tw15687759654709943475:=0
def tw5236568070312812819:=0
def tw8006616272704069939:=0
def tw11463297491659985235:=0
def tw12960035742522241395:=0
def tw2388141480516092307:=0
def tw18256283518972147187:=0
def tw8992341647594175987:=0
def tw488397377339049459:=0
def tw14499737680826003987:=0
def tw1660764299827888851:=0
def tw625415929244740339:=0
def tw16237190115047278355:=0
def tw15023083161459211027:=0
def tw2268604227419041587:=0
def tw12326267374732230579:=0
def tw3637238602560449459:=0
def tw18207977738788148179:=0
def tw17826706042580279251:=0
def tw17077912094285388948:=0
def tw10199916590191438100:=0
def tw13462439195343267124:=0
def tw14543093556602318164:=0
def tw5324113633855279476:=0
def tw16798997736841333108:=0
def tw12690910654275678580:=0
def tw14039821295238495636:=0
def tw15055305414483946964:=0
def tw7907458483013922292:=0
def tw7214820417964923412:=0
def tw13501528598649901620:=0
def tw15746818844099549748:=0
def tw3821413281154116212:=0
def tw5455124210479670964:=0
def tw17821733187446787764:=0
def tw11902777572537308916:=0
def tw11060924025041378036:=0
def tw466974011478042356:=0
def tw9669609948854760212:=0
def tw431752728274971444:=0
def tw7792023464630912980:=0
def tw6011043709441809429:=0
def tw182445361036656661:=0
def tw4861723167909362837:=0
def tw1170563308308199605:=0
def tw13839465743425588437:=0
def tw14992907228327087349:=0
def tw15109533852378629493:=0
def tw7830824450277232053:=0
def tw3779751719831413237:=0
def tw5265598887131144885:=0
def tw146650095208338165:=0
def tw530362936173726485:=0
def tw12489453028202047413:=0
def tw11226469595895643125:=0
def tw14102037116048146421:=0
def tw14780903650694559830:=0
def tw14067020673106392182:=0
def tw274852066415556726:=0
def tw16148156972966830262:=0
def tw13344706062011388150:=0
def tw10606495846617350422:=0
def tw4338295327863599382:=0
def tw1213638975672826166:=0
def tw14882859449267192214:=0
def tw6329323622640911766:=0
def tw13400314409129397686:=0
def tw10294709118077291094:=0
def tw2008888366303623766:=0
def tw3114543686110579350:=0
def tw1451052089402722966:=0
def tw3139566809444117174:=0
def tw11037158552034338614:=0
def tw8297502035819656054:=0
def tw5578926180994207638:=0
def tw7960008896917596150:=0
def tw8576069363582679159:=0
def tw3218143689984321655:=0
def tw18283770628146858263:=0
def tw16891350373009540407:=0
def tw17702645842229969207:=0
def tw13449820719470901655:=0
def tw13695521223952968215:=0
def tw14890028921622810263:=0
def tw10835109824770559799:=0
def tw5211382765995918167:=0
def tw5816622566478461783:=0
def tw7213420279428499480:=0
def tw15299379643758673976:=0
def tw8906432494344283256:=0
def tw3423320050302929048:=0
def tw119901748769995928:=0
def tw803097481647441048:=0
def tw6855573129651277080:=0
def tw6647604434731420952:=0
def tw1397495239520149784:=0
def tw10940898195333592376:=0
def tw7639036647579227608:=0
def tw14277234504540863992:=0
def tw4650899912017927672:=0
def tw12430730735801438744:=0
def tw4370428460097674776:=0
def tw13122143026697482808:=0
def tw4258775589324483192:=0
def tw629755484573997784:=0
def tw4645714059595967224:=0
def tw2597825495721927416:=0
def tw2018791948572558104:=0
def tw13548736987868674872:=0
def tw5887400024582113080:=0
def tw1947037997415122744:=0
def tw14716848693272989496:=0
def tw10219163992048480088:=0
def tw15573856067316009816:=0
def tw7445066143934040920:=0
def tw15606393679392768920:=0
def tw6467714384067210136:=0
def tw8988263277915295640:=0
def tw9538682710488135640:=0
def tw5255133879965307929:=0
def tw3982484573534051417:=0
def tw1077918050143912025:=0
def tw3804574168509642905:=0
def tw9431401117751060665:=0
def tw3327489096937704761:=0
def tw15047323493257396601:=0
def tw2393099830544236953:=0
def tw11245751611775184313:=0
def tw12775299811553440345:=0
def tw3836715536539210329:=0
def tw3436061998351068825:=0
def tw3258102569112190649:=0
def tw1386602834000165625:=0
def tw7676118309320600345:=0
def tw4889090011928700761:=0
def tw6027888203669404569:=0
def tw15278036538204225497:=0
def tw910569712429763577:=0
def tw13388289992640005178:=0
def tw13921614888390466618:=0
def tw16572833987846820954:=0
def tw12446433805934279866:=0
def tw17691759080283039930:=0
def tw10597623527954614554:=0
def tw14733587504108360026:=0
def tw8709163509873005914:=0
def tw7243391409847469466:=0
def tw1496384928257838618:=0
def tw10239258393592410650:=0
def tw4103918562391704090:=0
def tw3442818397385385658:=0
def tw18419413682470948666:=0
def tw15361775925510902618:=0
def tw11650828653452018586:=0
def tw5258208944473982970:=0
def tw14309318865547719674:=0
def tw2316638969825328251:=0
def tw5972375136173865083:=0
def tw7575254299459439771:=0
def tw13340124011823873179:=0
def tw10039528567287389403:=0
def tw8670380905649471771:=0
def tw8199186668351485243:=0
def tw2720295947700944219:=0
def tw17832957675117940091:=0
def tw13869995860129751451:=0
def tw9263285229290428891:=0
def tw7128146534913157755:=0
def tw14783201788655793819:=0
def tw16474822210618570491:=0
def tw6702319821060937499:=0
def tw10865651673217332027:=0
def tw47457909786342203:=0
def tw16143785742762289019:=0
def tw12867135839029138363:=0
def tw6388032504322738139:=0
def tw2030030286497597468:=0
def tw2633060357898514524:=0
def tw11713421045356308668:=0
def tw4554925582682366364:=0
def tw15458754621255838108:=0
def tw6571972663175339516:=0
def tw13063091758257679900:=0
def tw18243683248858343036:=0
def tw8089221697997354652:=0
def tw5156019136724358908:=0
def tw16727634496306156444:=0
def tw12294765253015910300:=0
def tw13548515857921912796:=0
def tw4769102297973911741:=0
def tw4701473733770775773:=0
def tw16652073993677292829:=0
def tw8707282608303119677:=0
def tw10630792971059799357:=0
def tw7888697030318431709:=0
def tw7082823345529988605:=0
def tw4217565748107128349:=0
def tw14441405357470471741:=0
def tw7300896138232996445:=0
def tw1030886294330391133:=0
def tw382022852663656029:=0
def tw8434400063091742333:=0
def tw3781864100132874877:=0
def tw14262839452588141181:=0
def tw4096091387728606909:=0
def tw15333762000470894269:=0
def tw7926417739609467581:=0
def tw14472115292003949469:=0
def tw17095071341670862781:=0
def tw11229268200580516797:=0
def tw15566461315392943069:=0
def tw229565429996237854:=0
def tw3569731441524559998:=0
def tw13982617835516315806:=0
def tw2416912634625224862:=0
def tw8402417857560657086:=0
def tw16113428786620666078:=0
def tw12928726952110179550:=0
def tw10267164306291710302:=0
def tw9327714092227018078:=0
def tw9328114957188768254:=0
def tw10001979160516319742:=0
def tw9378788041830930974:=0
def tw5355939597892519582:=0
def tw6125962919251820190:=0
def tw9068190624907121342:=0
def tw16768876443740109566:=0
def tw15292048387985287006:=0
def tw6100100831170394974:=0
def tw2152054368063203326:=0
def tw16062447944194464831:=0
def tw17819956611942490239:=0
def tw1713832769796570239:=0
def tw2933856059832172703:=0
def tw6541057810795290815:=0
def tw5256503470560604351:=0
def tw9808415240168393023:=0
def tw381596209458553215:=0
def tw13363604377963134399:=0
def tw5903444191605843455:=0
def tw11571109499576456735:=0
def tw9223301234112285247:=0
def tw2908211371346507391:=0
def tw6394893058772795103:=0
def tw1170406613824015231:=0
def tw10415791926651702175:=0
def tw6855917042488316863:=0
def tw10702847165593525183:=0
def tw7326272375665995711:=0
def tw856347541852028654:=0
end PySem.W.Fast
set_option linter.all false
set_option Elab.async false
set_option maxRecDepth 100000
abbrev FP:=@List.getElem?_eq_getElem
abbrev FQ:=@List.getElem?_eq_some_iff
abbrev FR:=@PySem.Heap.get?_push_of_some
abbrev FS:=@List.length_map
abbrev FT:=@List.mem_singleton
abbrev FU:=@List.getElem?_map
abbrev FV:=@List.mem_of_getElem?
abbrev FW:=@PySem.Heap.get?_update_other
abbrev FX:=@PySem.Heap.get?_push_size
abbrev FY:=@List.size_toArray
abbrev FZ:=@List.getElem_mem
abbrev F0:=@Int.toNat_natCast
abbrev F1:=@PySem.Heap.get?_update_self
abbrev F2:=@List.length_cons
abbrev F3:=@List.map_append
abbrev F4:=@List.mem_append
abbrev F5:=@List.map_map
abbrev F6:=@List.mem_cons
abbrev F7:=@List.mem_cons_of_mem
abbrev F8:=@List.length_reverse
abbrev F9:=@Nat.lt_of_lt_of_le
abbrev F_:=@Nat.ne_of_lt
abbrev F':=@List.getElem?_append_right
abbrev Ga:=@List.getElem?_append_left
abbrev Gb:=@List.length_append
abbrev Gc:=@Nat.le_refl
abbrev Gd:=@Nat.zero_le
abbrev Gf:=@Bool.false_ne_true
abbrev Gg:=@PySem.Heap.lt_size
abbrev Gh:=@Option.map_eq_some_iff
abbrev Gj:=@List.getElem?_cons_succ
abbrev Gk:=@List.map_cons
abbrev Gm:=@List.reverse_cons
abbrev Gn:=@Nat.le_trans
abbrev Go:=@Nat.lt_irrefl
abbrev Gp:=@Nat.lt_succ_self
abbrev Gq:=@List.append_nil
abbrev Gs:=@List.append_assoc
abbrev Gu:=@List.getElem?_set_self
abbrev Gv:=@List.take_length
abbrev Gw:=@List.length_take
abbrev Gx:=@List.length_drop
abbrev Gy:=@Nat.lt_of_le_of_lt
abbrev Gz:=@List.length_eq_zero_iff
abbrev GA:=@List.mem_map
abbrev GB:=@List.all_eq_true
abbrev GC:=@Nat.add_le_add_left
abbrev GD:=@List.getElem_toArray
abbrev GE:=@List.nil_append
abbrev GF:=@List.length_set
abbrev GG:=@Int.emod_nonneg
abbrev GH:=@Int.emod_lt_of_pos
abbrev GI:=@Int.toNat_of_nonneg
abbrev GJ:=@Nat.min_eq_left
abbrev GK:=@List.take_zero
abbrev GL:=@List.drop_zero
abbrev GM:=@List.concat_eq_append
namespace L2
open PySem PySem.Spec PyProof.Rows
abbrev cW:=Sum Int Str
def oy:cW->Value->Bool
 | .inl k,v=>Value.isInt k v
 | .inr x,v=>Value.isStrOf x v
def C_(w:World):cW->Int
 | .inl k=>hashInt k
 | .inr x=>hashStr w x
theorem bK:∀{k:cW} {v:Value},oy k v=true->(∃i t,k=Sum.inl i/\v=Value.int i t)\/(∃x t,k=Sum.inr x/\v=Value.str x t)
 | .inl i,v,h=>by
  obtain⟨t,e⟩:=Value.isInt_shape (k:=i) (v:=v) h
  exact .inl ⟨i,t,rfl,e⟩
 | .inr x,v,h=>by
  obtain⟨t,e⟩:=Value.isStrOf_shape (x:=x) (v:=v) h
  exact .inr ⟨x,t,rfl,e⟩
theorem vV(i:Int)(t:Tok):oy (.inl i) (.int i t)=true:=by simp[oy,Value.isInt]
theorem wG(x:Str)(t:Tok):oy (.inr x) (.str x t)=true:=by simp[oy,Value.isStrOf]
theorem AN(a b:Int):decide ((Sum.inl a:cW)=Sum.inl b)=(a==b):=by
 by_cases e:a=b
 ·subst e;simp
 ·have h:¬ (Sum.inl a:cW)=Sum.inl b:=fun q=>e (Sum.inl.inj q)
  rw[decide_eq_false h]
  exact(beq_eq_false_iff_ne.mpr e).symm
theorem AW(a b:Str):decide ((Sum.inr a:cW)=Sum.inr b)=decide (a=b):=by
 by_cases e:a=b
 ·subst e;simp
 ·have h:¬ (Sum.inr a:cW)=Sum.inr b:=fun q=>e (Sum.inr.inj q)
  rw[decide_eq_false h,decide_eq_false e]
theorem Ar(a:Int)(b:Str):decide ((Sum.inl a:cW)=Sum.inr b)=false:=decide_eq_false (fun q=>nomatch q)
theorem AV(a:Str)(b:Int):decide ((Sum.inr a:cW)=Sum.inl b)=false:=decide_eq_false (fun q=>nomatch q)
def bQ(prog:Program)(w:World):PySem.KeyKind prog w cW where
 is:=oy
 hash:=C_ w
 inj:=fun v a b ha hb=>by
  rcases bK ha with⟨i,t,rfl,rfl⟩ | ⟨x,t,rfl,rfl⟩
  ·rcases bK hb with⟨j,u,rfl,e⟩ | ⟨y,u,rfl,e⟩
   ·injection e with e1 _;rw[e1]
   ·exact nomatch e
  ·rcases bK hb with⟨j,u,rfl,e⟩ | ⟨y,u,rfl,e⟩
   ·exact nomatch e
   ·injection e with e1 _;rw[e1]
 byValue:=fun k v h=>by
  rcases bK h with⟨i,t,rfl,rfl⟩ | ⟨x,t,rfl,rfl⟩<;>rfl
 pyHash:=fun hv h=>by
  rcases bK hv with⟨i,t,rfl,rfl⟩ | ⟨x,t,rfl,rfl⟩
  ·exact wpAny_pyHash_int h
  ·exact wpAny_pyHash_str h
 eqBool:=fun hu hv h=>by
  rcases bK hu with⟨i,t,rfl,rfl⟩ | ⟨x,t,rfl,rfl⟩
  ·rcases bK hv with⟨j,u,rfl,rfl⟩ | ⟨y,u,rfl,rfl⟩
   ·rw[AN]at h;exact wpAny_eqBool_int h
   ·rw[Ar]at h;exact SeqAt.EqAt.int_str i t y u _ _ _ _ h
  ·rcases bK hv with⟨j,u,rfl,rfl⟩ | ⟨y,u,rfl,rfl⟩
   ·rw[AV]at h;exact SeqAt.EqAt.str_int x t j u _ _ _ _ h
   ·rw[AW]at h;exact wpAny_eqBool_str h
 «strs»:=fun k x t v h=>by
  rcases bK h with⟨i,u,rfl,e⟩ | ⟨y,u,rfl,e⟩
  ·exact nomatch e
  ·injection e with e1 _
   subst e1
   cases v<;>rfl
theorem rn(prog:Program)(w:World)(i:Int)(t:Tok):(bQ prog w).is (.inl i) (.int i t)=true:=vV i t
theorem q9(prog:Program)(w:World)(x:Str)(t:Tok):(bQ prog w).is (.inr x) (.str x t)=true:=wG x t
inductive V where
 |non | bl (b:Bool) | int (i:Int) | str (x:Str) | byt (b:Array UInt8) | flt (b:UInt64) | ref (a:Addr) | ty (n:String)
 deriving DecidableEq
def aY:V->Value->Prop
 | .non,u=>u=Value.none
 | .bl b,u=>u=Value.bool b
 | .int i,u=>∃t,u=Value.int i t
 | .str x,u=>∃t,u=Value.str x t
 | .byt b,u=>∃t,u=Value.bytes b t
 | .flt b,u=>∃t,u=Value.float b t
 | .ref a,u=>u=Value.ref a
 | .ty n,u=>u=Value.type n
abbrev aS:List V->List Value->Prop:=Paired aY
theorem aS.length{xs:List V}{us:List Value}(r:aS xs us):xs.length=us.length:=Paired.length r
theorem aS.get:∀{xs:List V} {us:List Value} {i:Nat} {x:V},aS xs us->xs[i]?=some x->∃u,us[i]?=some u/\aY x u
 |_,_,_,_,.nil,e=>by simp at e
 |_,_,0,_,.cons r _,e=>by simp at e;subst e;exact⟨_,rfl,r⟩
 |_,_,i+1,x,.cons _ t,e=>by
  obtain⟨u,h1,h2⟩:=aS.get (i:=i) (x:=x) t (by simpa using e)
  exact⟨u,by simpa using h1,h2⟩
theorem aS.set{x:V}{u:Value}(r:aY x u):∀{xs:List V} {us:List Value} (i:Nat),aS xs us->aS (xs.set i x) (us.set i u)
 |_,_,_,.nil=>.nil
 |_,_,0,.cons _ t=>.cons r t
 |_,_,i+1,.cons q t=>.cons q (aS.set r i t)
theorem aS.append:∀{xs ys:List V} {us ws:List Value},aS xs us->aS ys ws->aS (xs++ys) (us++ws)
 |_,_,_,_,.nil,s=>s
 |_,_,_,_,.cons r t,s=>.cons r (aS.append t s)
theorem aS.take:∀{xs:List V} {us:List Value} (n:Nat),aS xs us->aS (xs.take n) (us.take n)
 |_,_,0,_=>.nil
 |_,_,_+1,.nil=>.nil
 |_,_,n+1,.cons r t=>.cons r (aS.take n t)
theorem aS.drop:∀{xs:List V} {us:List Value} (n:Nat),aS xs us->aS (xs.drop n) (us.drop n)
 |_,_,0,r=>r
 |_,_,_+1,.nil=>.nil
 |_,_,n+1,.cons _ t=>aS.drop n t
def iw:Option V->Option Value->Prop
 |some v,some u=>aY v u
 |none,none=>True
 |_,_=>False
def KV{κ:Type}:List (κ×V)->List (κ×Value)->Prop:=Paired fun(p:κ×V) (q:κ×Value)=>p.1=q.1/\aY p.2 q.2
def kV:cW->V
 | .inl i=>.int i
 | .inr x=>.str x
inductive HO where
  |lst (xs:List V)
  |tup (xs:List V)
  |dK (kvs:List (cW×V)) | dT (kvs:List (List cW×V))
  |set(S:Int->Bool) (n:Nat)
  |ins (C dx:Addr) (fs:List (Str×V))
  |own (x:Addr)
  |xd (fs:List (Str×V))
  |met (f x:Addr)
  |rng (lo hi:Int)
  |frz (o:Obj) (u:HO)
  |tbl (ps:Array Value)
  |ext (φ:Heap->Prop)
abbrev Hp:=Addr->Option HO
def ap(H:Hp)(a:Addr)(o:HO):Hp:=fun b=>if b=a then some o else H b
theorem ac{H:Hp}{a:Addr}{o:HO}:ap H a o a=some o:=by unfold ap;rw[if_pos rfl]
theorem aj{H:Hp}{a b:Addr}{o:HO}(h:b≠a):ap H a o b=H b:=by unfold ap;rw[if_neg h]
theorem jV{H:Hp}{a:Addr}{o u:HO}:ap (ap H a o) a u=ap H a u:=by
 funext b;unfold ap;split<;>rfl
theorem BL{H:Hp}{a b:Addr}{o u:HO}(h:H a=some o)(h':H b=some u)(d:o≠u):a≠b:=by
 intro e;subst e;rw[h]at h';exact d (Option.some.inj h')
theorem aG{H:Hp}{a b:Addr}{o:HO}(h:H a=some o)(h':H b=none):a≠b:=by
 intro e;subst e;rw[h]at h';cases h'
section
variable (P:Program)(w:World)
def bC(H:Hp)(h:Heap)(a:Addr):HO->Prop
 | .lst xs=>xs.length<=sizeLine/\∃(its:List Value) (n:Nat),aS xs its/\h.get? a=some {cls:=.type "list",data:=.seq its.toArray n}
 | .tup xs=>xs.length<=sizeLine/\∃its:List Value,aS xs its/\IsTup h a its.toArray
 | .dK kvs=>kvs.length<=sizeLine/\(a==sysModules)=false/\∃vs,KV kvs vs/\h.DictOf (bQ P w) a vs
 | .dT kvs=>kvs.length<=sizeLine/\(a==sysModules)=false/\∃xs:List (List cW×Addr×Value),
   Paired (fun(p:List cW×V) (q:List cW×Addr×Value)=>p.1=q.1/\H q.2.1=some (.tup (p.1.map kV))/\aY p.2 q.2.2) kvs xs /\
   ∃o es ep,h.get? a=some o/\o.ExactDict/\o.data=.dict es ep/\es.toList=xs.map (entryOfKey (tupleKind (bQ P w)))/\(xs.map (·.1)).Nodup
 | .set S n=>h.SetOf (intKind P w) a S n
 | .ins C dx fs=>H dx=some (.own a)/\fs.length<=1000/\dx≠a/\h.get? a=some (PySem.W.instObj C dx) /\
   ∃mA,h.Ns1 dx mA/\(∀f,iw (fs.lookup f) (mA f))/\PySem.Within mA (fs.map (·.1))
 | .own _=>∃o,h.get? a=some o
 | .xd fs=>∃mA,h.Ns1 a mA/\∀f,iw (fs.lookup f) (mA f)
 | .rng lo hi=>∃t u v,h.get? a=some {cls:=.type "range",data:=.fields #[.int lo t,.int hi u,.int 1 v]}
 | .frz o u=>h.get? a=some o/\bC H h a u
 | .tbl ps=>h.get? a=some {cls:=.none,data:=.fields ps}
 | .met f x=>h.get? a=some (PySem.W.methodObj (.ref f) (.ref x))
 | .ext φ=>φ h/\(∃o,h.get? a=some o)/\∀h1 h2:Heap,φ h1->(∀o,h1.get? a=some o->h2.get? a=some o)->φ h2
def i5(H:Hp)(h:Heap):Prop:=∀a o,H a=some o->bC P w H h a o
end
section
variable {P:Program}{w:World}{H H':Hp}{h h':Heap}{a:Addr}{o:HO}
theorem bC.lt(x:bC P w H h a o):a<h.objs.size:=by
 cases o with
 |lst xs=>obtain⟨_,_,_,_,e⟩:=x;exact Gg e
 |tup xs=>obtain⟨_,_,_,p⟩:=x;exact p.lt
 |dK kvs=>obtain⟨_,_,_,_,o,_,_,e,_⟩:=x;exact Gg e
 |dT kvs=>obtain⟨_,_,_,_,o,_,_,e,_⟩:=x;exact Gg e
 |set S n=>obtain⟨o,_,_,_,e,_⟩:=x;exact Gg e
 |ins C dx fs=>obtain⟨_,_,_,e,_⟩:=x;exact Gg e
 |own y=>obtain⟨_,e⟩:=x;exact Gg e
 |xd fs=>obtain⟨_,⟨_,_,_,e,_⟩,_⟩:=x;exact Gg e
 |rng lo hi=>obtain⟨_,_,_,e⟩:=x;exact Gg e
 |frz ob u=>obtain⟨e,_⟩:=x;exact Gg e
 |tbl ps=>exact Gg (show h.get? a=some _ from x)
 |met f y=>exact Gg (show h.get? a=some _ from x)
 |ext φ=>obtain⟨_,⟨_,e⟩,_⟩:=x;exact Gg e
theorem Paired.mapP{α β:Type}{F G:α->β->Prop}:∀{l₁:List α} {l₂:List β},Paired F l₁ l₂->(∀a b,F a b->G a b)->Paired G l₁ l₂
 |_,_,.nil,_=>.nil
 |_,_,.cons r t,f=>.cons (f _ _ r) (Paired.mapP t f)
theorem bC.stay(x:bC P w H h a o)(k:∀b u,(b=a\/H b=some (.own a))->h.get? b=some u->h'.get? b=some u)
  (ho:∀b,H b=some (.own a)->H' b=some (.own a)) (ht:∀b xs,H b=some (.tup xs)->H' b=some (.tup xs)):bC P w H' h' a o:=by
 induction o with
 |lst xs=>obtain⟨z,its,n,r,e⟩:=x;exact⟨z,its,n,r,k _ _ (.inl rfl) e⟩
 |tup xs=>obtain⟨z,its,r,ob,e,c⟩:=x;exact⟨z,its,r,ob,k _ _ (.inl rfl) e,c⟩
 |dK kvs=>obtain⟨z,y,vs,r,ob,es,ep,e,c⟩:=x;exact⟨z,y,vs,r,ob,es,ep,k _ _ (.inl rfl) e,c⟩
 |dT kvs=>
  obtain⟨z,y,xs,r,ob,es,ep,e,c⟩:=x
  exact⟨z,y,xs,Paired.mapP r fun p q z=>⟨z.1,ht _ _ z.2.1,z.2.2⟩,ob,es,ep,k _ _ (.inl rfl) e,c⟩
 |set S n=>obtain⟨ob,es,ep,t,e,c⟩:=x;exact⟨ob,es,ep,t,k _ _ (.inl rfl) e,c⟩
 |ins C dx fs=>
  obtain⟨d,z,ne,e,mA,⟨od,es,ep,e2,c⟩,r⟩:=x
  exact⟨ho _ d,z,ne,k _ _ (.inl rfl) e,mA,⟨od,es,ep,k _ _ (.inr d) e2,c⟩,r⟩
 |own y=>obtain⟨ob,e⟩:=x;exact⟨ob,k _ _ (.inl rfl) e⟩
 |xd fs=>obtain⟨mA,⟨od,es,ep,e,c⟩,r⟩:=x;exact⟨mA,⟨od,es,ep,k _ _ (.inl rfl) e,c⟩,r⟩
 |rng lo hi=>obtain⟨t,u,v,e⟩:=x;exact⟨t,u,v,k _ _ (.inl rfl) e⟩
 |frz ob u ih=>obtain⟨e,q⟩:=x;exact⟨k _ _ (.inl rfl) e,ih q⟩
 |tbl ps=>
  have e:h.get? a=some {cls:=.none,data:=.fields ps}:=x
  show h'.get? a=some {cls:=.none,data:=.fields ps}
  exact k a _ (.inl rfl) e
 |met f y=>
  have e:h.get? a=some (PySem.W.methodObj (.ref f) (.ref y)):=x
  show h'.get? a=some (PySem.W.methodObj (.ref f) (.ref y))
  exact k a _ (.inl rfl) e
 |ext φ=>obtain⟨p,⟨o,e⟩,st⟩:=x;exact⟨st _ _ p fun o q=>k _ _ (.inl rfl) q,⟨o,k _ _ (.inl rfl) e⟩,st⟩
theorem i5.lt(x:i5 P w H h)(e:H a=some o):a<h.objs.size:=(x a o e).lt
theorem i5.fresh(x:i5 P w H h)(e:h.objs.size<=a):H a=none:=by
 cases q:H a with
 |none=>rfl
 |some u=>exact absurd (F9 (x.lt q) e) (Go _)
theorem i5.kept(x:i5 P w H h)(k:∀b u,h.get? b=some u->h'.get? b=some u):i5 P w H h':=fun a o e=>
 (x a o e).stay (fun b u _ q=>k b u q) (fun _ q=>q) fun _ _ q=>q
theorem i5.laid(x:i5 P w H h)(k:∀b u,h.get? b=some u->h'.get? b=some u)(hp:h.objs.size<=a)(new:bC P w (ap H a o) h' a o):i5 P w (ap H a o) h':=fun b u e=>by
 have hn:=x.fresh hp
 by_cases hb:b=a
 ·subst hb;rw[ac]at e;cases e;exact new
 ·rw[aj hb]at e
  exact(x b u e).stay (fun c v _ q=>k c v q) (fun c q=>by rw[aj (aG q hn)];exact q) fun c xs q=>by rw[aj (aG q hn)];exact q
end
def Rd(H:Hp)(a:Addr)(u:HO):Prop:=H a=some u\/∃o,H a=some (.frz o u)
theorem Rd.ok{P:Program}{w:World}{H:Hp}{h:Heap}{a:Addr}{u:HO}(r:Rd H a u)(x:i5 P w H h):bC P w H h a u:=by
 rcases r with r | ⟨o,r⟩
 ·exact x a u r
 ·obtain⟨_,q⟩:=x a _ r
  exact q
def Bu:Option HO->Prop
 |some (.lst _)=>True
 |some (.dK _)=>True
 |some (.dT _)=>True
 |some (.set _ _)=>True
 |some (.ins _ _ _)=>True
 |some (.ext _)=>True
 |_=>False
section
variable {P:Program}{w:World}{H:Hp}{h h':Heap}{x e:Addr}{o':HO}
theorem i5.write(ok:i5 P w H h)(mu:Bu (H x))(he:e=x\/H e=some (.own x))(k:∀b u,b≠e->h.get? b=some u->h'.get? b=some u)(heo:∃u,h'.get? e=some u)
  (new:bC P w (ap H x o') h' x o'):i5 P w (ap H x o') h':=fun b u q=>by
 have nown:∀c y,H c=some (.own y)->c≠x:=fun c y r z=>by subst z;rw[r]at mu;exact mu
 have ntup:∀c xs,H c=some (.tup xs)->c≠x:=fun c xs r z=>by subst z;rw[r]at mu;exact mu
 by_cases hb:b=x
 ·subst hb;rw[ac]at q;cases q;exact new
 ·rw[aj hb]at q
  by_cases hbe:b=e
  ·have q':H b=some (.own x):=by
    rcases he with z | z
    ·exact absurd (hbe.trans z) hb
    ·rw[hbe];exact z
   rw[q]at q';cases q'
   obtain⟨v,hv⟩:=heo
   exact⟨v,by rw[hbe];exact hv⟩
  ·refine(ok b u q).stay (fun c v hc r=>k c v ?_ r) (fun c r=>by rw[aj (nown c b r)];exact r) fun c xs r=>by rw[aj (ntup c xs r)];exact r
   rcases hc with rfl | hc
   ·exact hbe
   ·rintro rfl
    rcases he with z | z
    ·exact nown c b hc z
    ·rw[hc]at z;cases z;exact hb rfl
end
structure Un(fs ex:List Addr)(H H':Hp)(h h':Heap):Prop where
 keep:∀b o,h.get? b=some o->H b=none->b∉fs->b∉ex->h'.get? b=some o
 slot:∀b o,h.get? b=some o->H b=none->b∈fs->b∉ex->∃sl,h'.get? b=some {o with slots:=sl}
 free:∀b o,h.get? b=some o->H b=none->b∉ex->H' b=none
 there:∀b o,h.get? b=some o->b∉ex->∃o',h'.get? b=some o'
 tups:∀b xs,H b=some (.tup xs)->H' b=some (.tup xs)
 frzs:∀b o u,H b=some (.frz o u)->H' b=some (.frz o u)
 tbls:∀b ps,H b=some (.tbl ps)->∃more,H' b=some (.tbl (ps++more))
section
variable {fs fs' ex ex':List Addr}{H H1 H2:Hp}{h h1 h2 h':Heap}{a x e:Addr}{o:HO}
theorem Un.any(u:Un fs ex H H1 h h1){b:Addr}{ob:Obj}(q:h.get? b=some ob)(n:H b=none)(hx:b∉ex):∃sl,h1.get? b=some {ob with slots:=sl}:=by
 by_cases hb:b∈fs
 ·exact u.slot b ob q n hb hx
 ·exact⟨ob.slots,u.keep b ob q n hb hx⟩
theorem Un.kept(k:∀b u,h.get? b=some u->h'.get? b=some u):Un fs ex H H h h':=
 ⟨fun b ob q _ _ _=>k b ob q,fun b ob q _ _ _=>⟨ob.slots,k b ob q⟩,fun _ _ _ n _=>n,fun b ob q _=>⟨ob,k b ob q⟩,fun _ _ q=>q,fun _ _ _ q=>q,fun _ ps q=>⟨#[],by rw[q];simp⟩⟩
theorem Un.refl:Un fs ex H H h h:=Un.kept fun _ _ q=>q
theorem Un.laid(k:∀b u,h.get? b=some u->h'.get? b=some u)(hp:h.objs.size<=a)(hn:H a=none):Un fs ex H (ap H a o) h h' where
 keep:=fun b u q _ _ _=>k b u q
 slot:=fun b u q _ _ _=>⟨u.slots,k b u q⟩
 free:=fun b u q n _=>by rw[aj (F_ (F9 (Gg q) hp))];exact n
 there:=fun b u q _=>⟨u,k b u q⟩
 tups:=fun b xs q=>by rw[aj (aG q hn)];exact q
 frzs:=fun b u xs q=>by rw[aj (aG q hn)];exact q
 tbls:=fun b ps q=>⟨#[],by rw[aj (aG q hn),q];simp⟩
theorem Un.write(mu:Bu (H x))(he:e=x\/H e=some (.own x))(k:∀b u,b≠e->h.get? b=some u->h'.get? b=some u)(heo:∃u,h'.get? e=some u):Un fs ex H (ap H x o) h h':=by
 have hx:∀b,H b=none->b≠x:=fun b n z=>by subst z;rw[n]at mu;exact mu
 have hb:∀b,H b=none->b≠e:=fun b n z=>by
  subst z
  rcases he with r | r
  ·exact hx b n r
  ·rw[n]at r;cases r
 have hm:∀b u,H b=some u->¬ Bu (some u)->b≠x:=fun b u q nm z=>by subst z;rw[q]at mu;exact nm mu
 refine⟨fun b u q n _ _=>k b u (hb b n) q,fun b u q n _ _=>⟨u.slots,k b u (hb b n) q⟩,fun b u q n _=>by rw[aj (hx b n)];exact n,fun b u q _=>?_,
  fun b xs q=>by rw[aj (hm b _ q fun z=>z)];exact q,fun b u xs q=>by rw[aj (hm b _ q fun z=>z)];exact q,fun b ps q=>⟨#[],by rw[aj (hm b _ q fun z=>z),q];simp⟩⟩
 by_cases hbe:b=e
 ·subst hbe;exact heo
 ·exact⟨u,k b u hbe q⟩
end
def Cj(h:Heap)(H:Hp):List Addr:=(List.range h.objs.size).filter fun a=>(H a).isSome
def pW(h:Heap)(H:Hp):Heap:=PySem.W.hideAll h (Cj h H)
theorem wD(h:Heap)(H:Hp):(pW h H).objs.size=h.objs.size:=PySem.W.hideAll_size _ _
theorem wM{h:Heap}{H:Hp}{b:Addr}{o:Obj}(e:h.get? b=some o)(n:H b=none):(pW h H).get? b=some o:=
 PySem.W.hideAll_get _ e fun hm=>by
  have q:(H b).isSome=true:=(List.mem_filter.mp hm).2
  rw[n]at q;simp at q
theorem yY{h:Heap}{H:Hp}{b:Addr}{o:Obj}(e:(pW h H).get? b=some o):h.get? b=some o/\H b=none:=by
 have e':h.get? b=some o:=PySem.W.of_hideAll (Cj h H) e
 refine⟨e',?_⟩
 cases q:H b with
 |none=>rfl
 |some x=>
  have hm:b∈Cj h H:=List.mem_filter.mpr ⟨List.mem_range.mpr (Gg e'),by simp[q]⟩
  have z:(pW h H).get? b=none:=PySem.W.hideAll_none (Cj h H) hm
  rw[z]at e;cases e
def yV(g h:Heap)(L:Addr):List (Addr×Obj):=(List.range h.objs.size).filterMap fun a=>if a=L\/(g.get? a).isSome=true then none else(h.get? a).map fun o=>(a,o)
def bh(g h:Heap)(L d:Addr):List (Addr×Obj):=(yV g h L).filter fun p=>decide (p.1≠d)
structure Mod(K:PySem.W.Frag)(mg:Str->Option Value)(base:Heap):Prop where
 kin:K.In base
 glob:base.Ns mainGlobals mg
 blt:∃mb,base.Ns builtinsNs mb/\∀x:Str,x≠"__name__"->mb x=bootBuiltins x
 nolimit:base.NoLimit
structure Cx where
 prog:Program
 w:World
 K:PySem.W.Frag
 mg:Str->Option Value
 base:Heap
 A:Around
 N:List Str
 s₀:Shared
 H₀:Hp
 env:Env
 outer:List Env
 stack:List Env
 ex:List Addr
 fn:Str->Bool
 calm:Bool
 pn:List (Addr×Obj)
 xe:Value->Shared->Prop
def lg(l:List Env):List Addr:=l.filterMap (·.frame)
abbrev Cx.fs(X:Cx):List Addr:=lg X.outer
def DB(sc:Scope)(x:Str):Prop:=sc.names.lookup x=some .local\/sc.names.lookup x=some .cell\/sc.names.lookup x=some .free
def Bl(sc:Scope)(x:Str):Prop:=sc.names.lookup x=some .local\/sc.names.lookup x=some .cell
def DM(env:Env)(h:Heap)(m:Str->Option Value)(x:Str)(u:Value):Prop:=
 (env.kindOf x=some .local/\m x=some u)\/((env.kindOf x=some .cell\/env.kindOf x=some .free)/\∃c,env.cells.lookup x=some c/\h.IsCell c (some u))
structure Cx.Ok(X:Cx):Prop where
 mod:Mod X.K X.mg X.base
 kind:X.env.scope.kind=.function
 glob:X.env.globals=mainGlobals
 blt:X.env.builtins=builtinsNs
 above:X.s₀.heap.objs.size<=X.env.locals
 inj:∀x y c,X.env.cells.lookup x=some c->X.env.cells.lookup y=some c->x=y
 has:∀x,(X.env.kindOf x=some .cell\/X.env.kindOf x=some .free)->∃c,X.env.cells.lookup x=some c
 cab:∀x c,X.fn x=true->X.env.cells.lookup x=some c->X.s₀.heap.objs.size<=c
 hd:X.calm=true->X.A.handled=none
 frames:X.A.frames=some X.stack
 stk:X.stack=X.outer\/(X.stack=X.env::X.outer/\X.env.frame=some X.env.locals)
 exf:∀b∈X.ex,b≠X.env.locals/\∀x c,X.env.cells.lookup x=some c->c≠b
 bs:∀b o,X.base.get? b=some o->X.s₀.heap.get? b=some o/\X.H₀ b=none
 bsz:X.base.objs.size<=X.s₀.heap.objs.size
 noex:∀b o,X.base.get? b=some o->b∉X.ex
 exfs:∀b∈X.ex,b∉X.fs
 funs:X.s₀.heap.FunFrames X.base X.outer
 frf:∀b∈X.fs,X.H₀ b=none
structure aH(X:Cx)(pins:List (Addr×Obj))(σ:List (Option V))(H:Hp)(s:Shared):Prop where
 ok:X.Ok
 os:s.os=X.s₀.os
 bare:AllBare s.gens
 base:Un X.fs X.ex X.H₀ H X.s₀.heap s.heap
 loc:∃m,s.heap.Ns X.env.locals m/\∀(i:Nat) (x:Str) (v:V),X.N[i]?=some x->σ[i]?=some (some v)->DB X.env.scope x->∃u,aY v u/\DM X.env s.heap m x u
 cell:∀x c,X.env.cells.lookup x=some c->∃v,s.heap.IsCell c v
 free:H X.env.locals=none
 freeC:∀x c,X.env.cells.lookup x=some c->H c=none
 pin:∀p∈X.pn++pins,s.heap.get? p.1=some p.2/\H p.1=none/\p.1≠X.env.locals/\p.1∉X.fs/\∀v,p.2.data≠.cell v
 hok:i5 X.prog X.w H s.heap
 len:σ.length=X.N.length
section
variable {X:Cx}{pins:List (Addr×Obj)}{σ:List (Option V)}{H H':Hp}{s:Shared}{h':Heap}
theorem Cx.Ok.nofr(ok:X.Ok){b:Addr}{o:Obj}(e:X.base.get? b=some o):b∉X.fs:=fun hb=>by
 have:=(ok.funs.mem hb).1
 rw[e]at this;cases this
theorem aH.bs(I:aH X pins σ H s):∀b o,X.base.get? b=some o->s.heap.get? b=some o/\H b=none:=fun b o e=>
 ⟨I.base.keep b o (I.ok.bs b o e).1 (I.ok.bs b o e).2 (I.ok.nofr e) (I.ok.noex b o e),I.base.free b o (I.ok.bs b o e).1 (I.ok.bs b o e).2 (I.ok.noex b o e)⟩
theorem aH.bk(I:aH X pins σ H s):∀b o,X.base.get? b=some o->s.heap.get? b=some o:=fun b o e=>(I.bs b o e).1
theorem aH.mod(I:aH X pins σ H s):Mod X.K X.mg X.base:=I.ok.mod
theorem aH.kIn(I:aH X pins σ H s):X.K.In s.heap:=I.ok.mod.kin.keeps I.bk
theorem aH.lt(I:aH X pins σ H s):X.env.locals<s.heap.objs.size:=let ⟨_,hn,_⟩:=I.loc;hn.lt
theorem aH.sz(I:aH X pins σ H s):X.s₀.heap.objs.size<=s.heap.objs.size:=Gn I.ok.above (Nat.le_of_lt I.lt)
theorem aH.nofs(I:aH X pins σ H s){a:Addr}(h:s.heap.objs.size<=a):a∉X.fs:=fun hb=>by
 obtain⟨_,o,ho,_⟩:=I.ok.funs.mem hb
 exact absurd (F9 (Gg ho) (Gn I.sz h)) (Go _)
theorem aH.cne(I:aH X pins σ H s):∀x c,X.env.cells.lookup x=some c->c≠X.env.locals:=fun x c e z=>by
 obtain⟨v,o,ho,hd⟩:=I.cell x c e
 obtain⟨m,⟨o',es,ep,ho',hd',_⟩,_⟩:=I.loc
 rw[z,ho']at ho;cases ho;rw[hd']at hd;cases hd
theorem aH.funs(I:aH X pins σ H s):s.heap.FunFrames X.base X.outer:=by
 have all:∀(l:List Env),(∀b∈lg l,b∈X.fs)->X.s₀.heap.FunFrames X.base l->s.heap.FunFrames X.base l:=by
  intro l
  induction l with
  |nil=>intro _ _;trivial
  |cons env r ih=>
   intro hs hl
   obtain⟨hk,⟨L,o,hf,hn,ho,hd⟩,hr⟩:=hl
   have hL:L∈X.fs:=hs L (by unfold lg;rw[List.filterMap_cons,hf];exact List.mem_cons_self)
   obtain⟨sl,e⟩:=I.base.slot L o ho (I.ok.frf L hL) hL fun z=>I.ok.exfs L z hL
   exact⟨hk,⟨L,_,hf,hn,e,hd⟩,ih (fun b hb=>hs b (by unfold lg;rw[List.filterMap_cons,hf];exact F7 _ hb)) hr⟩
 exact all X.outer (fun _ hb=>hb) I.ok.funs
theorem aH.stack(I:aH X pins σ H s):s.heap.FunFrames X.base X.stack:=by
 rcases I.ok.stk with e | ⟨e,hf⟩
 ·rw[e];exact I.funs
 ·rw[e]
  obtain⟨m,hn,_⟩:=I.loc
  refine .cons (by rw[I.ok.kind];decide) hf hn ?_ I.funs
  exact Heap.get?_none_of_le (Gn I.ok.bsz I.ok.above)
theorem aH.stkSub(I:aH X pins σ H s):∀b∈lg X.stack,b∈X.env.locals::X.fs:=fun b hb=>by
 rcases I.ok.stk with e | ⟨e,hf⟩
 ·rw[e]at hb;exact F7 _ hb
 ·rw[e]at hb
  unfold lg at hb
  rw[List.filterMap_cons,hf]at hb
  exact hb
theorem aH.stkFree(I:aH X pins σ H s):∀b∈lg X.stack,H b=none:=fun b hb=>by
 rcases F6.mp (I.stkSub b hb) with e | hb
 ·rw[e];exact I.free
 ·obtain⟨_,o,ho,_⟩:=I.ok.funs.mem hb
  exact I.base.free b o ho (I.ok.frf b hb) fun z=>I.ok.exfs b z hb
theorem aH.step{g':Array GenState}{t':Nat}{d':Drawn}{ch:List Addr}(I:aH X pins σ H s)
  (hch:∀b∈ch,(b∈X.ex\/X.s₀.heap.objs.size<=b)/\b≠X.env.locals/\(∀x c,X.env.cells.lookup x=some c->c≠b)/\∀p∈X.pn++pins,p.1≠b)
  (keep:∀b o,b≠X.env.locals->b∉X.fs->b∉ch->s.heap.get? b=some o->H b=none->h'.get? b=some o)
  (slot:∀b o,b≠X.env.locals->b∈X.fs->b∉ch->s.heap.get? b=some o->H b=none->∃sl,h'.get? b=some {o with slots:=sl}) (free:∀b o,b∉ch->s.heap.get? b=some o->H b=none->H' b=none)
  (there:∀b o,b∉ch->s.heap.get? b=some o->∃o',h'.get? b=some o')
  (tups:∀b xs,H b=some (.tup xs)->H' b=some (.tup xs)) (frzs:∀b o u,H b=some (.frz o u)->H' b=some (.frz o u)) (tbls:∀b ps,H b=some (.tbl ps)->∃more,H' b=some (.tbl (ps++more)))
  (ns:∀m,s.heap.Ns X.env.locals m->h'.Ns X.env.locals m) (hok:i5 X.prog X.w H' h') (hg:AllBare g') :
  aH X pins σ H' {s with heap:=h',gens:=g',drawn:=d',toks:=t' }:=by
 have neL:∀b o,X.s₀.heap.get? b=some o->b≠X.env.locals:=fun b o e=>F_ (F9 (Gg e) I.ok.above)
 have neC:∀b o,X.s₀.heap.get? b=some o->b∉X.ex->b∉ch:=fun b o e hx hb=>by
  rcases(hch b hb).1 with z | z
  ·exact hx z
  ·exact absurd (F9 (Gg e) z) (Go _)
 have cellK:∀x c,X.env.cells.lookup x=some c->∀v,s.heap.IsCell c v->h'.IsCell c v:=fun x c e v ⟨o,ho,hd⟩=>by
  have nch:c∉ch:=fun z=>(hch c z).2.2.1 x c e rfl
  by_cases hc:c∈X.fs
  ·obtain⟨sl,q⟩:=slot c o (I.cne x c e) hc nch ho (I.freeC x c e)
   exact⟨_,q,hd⟩
  ·exact⟨o,keep c o (I.cne x c e) hc nch ho (I.freeC x c e),hd⟩
 refine⟨I.ok,I.os,hg,⟨fun b o e n hb hx=>?_,fun b o e n hb hx=>?_,fun b o e n hx=>?_,fun b o e hx=>?_,fun b xs e=>tups b xs (I.base.tups b xs e),fun b o xs e=>frzs b o xs (I.base.frzs b o xs e),fun b ps e=>?_⟩,?_,fun x c e=>?_,?_,fun x c e=>?_,fun p hp=>?_,hok,I.len⟩
 ·exact keep b o (neL b o e) hb (neC b o e hx) (I.base.keep b o e n hb hx) (I.base.free b o e n hx)
 ·obtain⟨sl,e1⟩:=I.base.slot b o e n hb hx
  obtain⟨sl',e2⟩:=slot b _ (neL b o e) hb (neC b o e hx) e1 (I.base.free b o e n hx)
  exact⟨sl',e2⟩
 ·obtain⟨o',e1⟩:=I.base.there b o e hx
  exact free b o' (neC b o e hx) e1 (I.base.free b o e n hx)
 ·obtain⟨o',e1⟩:=I.base.there b o e hx
  exact there b o' (neC b o e hx) e1
 ·obtain⟨m1,e1⟩:=I.base.tbls b ps e
  obtain⟨m2,e2⟩:=tbls b _ e1
  exact⟨m1++m2,by rw[e2,Array.append_assoc]⟩
 ·obtain⟨m,hn,hl⟩:=I.loc
  refine⟨m,ns m hn,fun i x v e1 e2 e3=>?_⟩
  obtain⟨u,r,l⟩:=hl i x v e1 e2 e3
  refine⟨u,r,?_⟩
  rcases l with l | ⟨k,c,e,z⟩
  ·exact .inl l
  ·exact .inr ⟨k,c,e,cellK x c e _ z⟩
 ·obtain⟨v,z⟩:=I.cell x c e
  exact⟨v,cellK x c e v z⟩
 ·obtain⟨m,⟨o,_,_,ho,_⟩,_⟩:=I.loc
  exact free _ o (fun z=>(hch _ z).2.1 rfl) ho I.free
 ·obtain⟨v,o,ho,hd⟩:=I.cell x c e
  exact free c o (fun z=>(hch c z).2.2.1 x c e rfl) ho (I.freeC x c e)
 ·obtain⟨e,n,ne,nf,d⟩:=I.pin p hp
  have nch:p.1∉ch:=fun z=>(hch p.1 z).2.2.2 p hp rfl
  exact⟨keep p.1 p.2 ne nf nch e n,free p.1 p.2 nch e n,ne,nf,d⟩
theorem aH.un{t':Nat}(I:aH X pins σ H s)(u:Un X.fs [] H H' s.heap h')(hok:i5 X.prog X.w H' h'):aH X pins σ H' {s with heap:=h',toks:=t' }:=by
 obtain⟨m,⟨o,es,ep,ho,r⟩,_⟩:=id I.loc
 obtain⟨sl,hL⟩:=u.any ho I.free (by simp)
 exact I.step (g':=s.gens) (d':=s.drawn) (ch:=[]) (fun _ z=>nomatch z) (fun b o _ hb _ e n=>u.keep b o e n hb (by simp)) (fun b o _ hb _ e n=>u.slot b o e n hb (by simp)) (fun b o _ e n=>u.free b o e n (by simp)) (fun b o _ e=>u.there b o e (by simp)) u.tups u.frzs u.tbls (fun m' hm=>by
  obtain⟨o',es',ep',ho',r'⟩:=hm
  rw[ho]at ho';cases ho'
  exact⟨_,es',ep',hL,r'⟩) hok I.bare
theorem aH.call{g':Array GenState}{t':Nat}{d':Drawn}{ch:List Addr}(I:aH X pins σ H s)(u:Un (lg X.stack) ch H H' s.heap h')(hok:i5 X.prog X.w H' h')(hg:AllBare g')
  (hch:∀b∈ch,(b∈X.ex\/X.s₀.heap.objs.size<=b)/\b≠X.env.locals/\(∀x c,X.env.cells.lookup x=some c->c≠b)/\∀p∈X.pn++pins,p.1≠b) :
  aH X pins σ H' {s with heap:=h',gens:=g',drawn:=d',toks:=t' }:=by
 obtain⟨m,⟨o,es,ep,ho,r⟩,_⟩:=id I.loc
 obtain⟨sl,hL⟩:=u.any ho I.free fun z=>(hch _ z).2.1 rfl
 exact I.step (ch:=ch) hch (fun b o hL hb hc e n=>u.keep b o e n (fun z=>(F6.mp (I.stkSub b z)).elim hL hb) hc) (fun b o _ _ hc e n=>u.any e n hc) (fun b o hc e n=>u.free b o e n hc) (fun b o hc e=>u.there b o e hc) u.tups u.frzs u.tbls (fun m' hm=>by
  obtain⟨o',es',ep',ho',r'⟩:=hm
  rw[ho]at ho';cases ho'
  exact⟨_,es',ep',hL,r'⟩) hok hg
theorem aH.turned{t':Nat}{it:Addr}(I:aH X pins σ H s)(k:∀b o,b≠it->s.heap.get? b=some o->h'.get? b=some o)(hn:H it=none)(hL:it≠X.env.locals)
  (h1:it∈X.ex\/X.s₀.heap.objs.size<=it) (h2:∀x c,X.env.cells.lookup x=some c->c≠it) (h3:∀p∈X.pn++pins,p.1≠it):aH X pins σ H {s with heap:=h',toks:=t' }:=by
 have nit:∀b u,H b=some u->b≠it:=fun b u e z=>by rw[z,hn]at e;cases e
 refine I.step (g':=s.gens) (d':=s.drawn) (ch:=[it]) (fun b hb=>?_) (fun b o _ _ hc e _=>k b o (fun z=>hc (by simp[z])) e) (fun b o _ _ hc e _=>⟨o.slots,k b o (fun z=>hc (by simp[z])) e⟩) (fun _ _ _ _ n=>n)
  (fun b o hc e=>⟨o,k b o (fun z=>hc (by simp[z])) e⟩) (fun _ _ e=>e) (fun _ _ _ e=>e) (fun b ps e=>⟨#[],by rw[e];simp⟩) (fun m hm=>?_) (fun b u e=>?_) I.bare
 ·have e:b=it:=by simpa using hb
  subst e
  exact⟨h1,hL,h2,h3⟩
 ·obtain⟨o,es,ep,ho,r⟩:=hm
  exact⟨o,es,ep,k _ o (Ne.symm hL) ho,r⟩
 ·refine(I.hok b u e).stay (fun c v hc q=>k c v ?_ q) (fun _ q=>q) fun _ _ q=>q
  rcases hc with z | z
  ·rw[z];exact nit b u e
  ·exact nit c _ z
theorem aH.tok(I:aH X pins σ H s)(t:Nat):aH X pins σ H {s with toks:=t}:=I.un (h':=s.heap) (t':=t) Un.refl I.hok
theorem aH.kept{t':Nat}(I:aH X pins σ H s)(k:∀b u,s.heap.get? b=some u->h'.get? b=some u):aH X pins σ H {s with heap:=h',toks:=t' }:=I.un (Un.kept k) (I.hok.kept k)
theorem aH.laid{a:Addr}{o:HO}{t':Nat}(I:aH X pins σ H s)(k:∀b u,s.heap.get? b=some u->h'.get? b=some u)(hp:s.heap.objs.size<=a)(new:bC X.prog X.w (ap H a o) h' a o) :
  aH X pins σ (ap H a o) {s with heap:=h',toks:=t' }:=I.un (Un.laid k hp (I.hok.fresh hp)) (I.hok.laid k hp new)
theorem aH.write{x e:Addr}{o:HO}{t':Nat}(I:aH X pins σ H s)(mu:Bu (H x))(he:e=x\/H e=some (.own x))(k:∀b u,b≠e->s.heap.get? b=some u->h'.get? b=some u)(heo:∃u,h'.get? e=some u)
  (new:bC X.prog X.w (ap H x o) h' x o):aH X pins σ (ap H x o) {s with heap:=h',toks:=t' }:=I.un (Un.write mu he k heo) (I.hok.write mu he k heo new)
theorem aH.pins_of{pins':List (Addr×Obj)}(I:aH X pins σ H s)(h:∀p∈pins',s.heap.get? p.1=some p.2/\H p.1=none/\p.1≠X.env.locals/\p.1∉X.fs/\∀v,p.2.data≠.cell v):aH X pins' σ H s:=
 ⟨I.ok,I.os,I.bare,I.base,I.loc,I.cell,I.free,I.freeC,fun p hp=>(F4.mp hp).elim (fun z=>I.pin p (List.mem_append_left _ z)) (h p),I.hok,I.len⟩
theorem rC{N:List Str}(hN:N.Nodup){i j:Nat}{x:Str}(a:N[i]?=some x)(b:N[j]?=some x):i=j:=by
 obtain⟨h1,e1⟩:=FQ.mp a
 obtain⟨h2,e2⟩:=FQ.mp b
 exact(List.getElem_inj hN).mp (e1.trans e2.symm)
theorem pC{M:Model}{A:Around}{E:Value->Shared->Prop}{i:Nat}{x:Str}{v:V}{u:Value}{Q:Unit->Shared->Prop}(I:aH X pins σ H s)(hN:X.N.Nodup)(hi:X.N[i]?=some x)(hx:Bl X.env.scope x)(r:aY v u)
  (h:∀s',aH X pins (σ.set i (some v)) H s'->(∃a,Heap.SameBut a s.heap s'.heap/\(a=X.env.locals\/X.env.cells.lookup x=some a))->Q () s') (hf:X.fn x=true\/X.env.scope.names.lookup x=some .local:=by first | exact .inl rfl | exact .inr rfl | assumption):wpAny M A (storeName X.env x u) Q E s:=by
 obtain⟨m,hn,hl⟩:=id I.loc
 have hcls:(X.env.scope.kind==.class||(X.env.scope.kind==.module&&X.env.locals != X.env.globals))=false:=by rw[I.ok.kind];rfl
 have hiσ:i<σ.length:=by rw[I.len];exact(FQ.mp hi).1
 have cne:=I.cne
 have tracked:∀{a:Addr} {h':Heap},(∃o,s.heap.get? a=some o/\H a=none)->Heap.SameBut a s.heap h'->i5 X.prog X.w H h':=fun{a h'} ha hs b ob e=>by
  obtain⟨_,_,hfree⟩:=ha
  refine(I.hok b ob e).stay (fun c w' hc q=>(hs.2 c ?_).trans q) (fun _ q=>q) fun _ _ q=>q
  rintro rfl
  rcases hc with rfl | hc
  ·rw[hfree]at e;cases e
  ·rw[hfree]at hc;cases hc
 rcases hx with hk | hk
 ·refine wpAny_storeName_local hk hn (fun h' hn' hs=>?_) hcls
  obtain⟨oL,_,_,hoL,_⟩:=id hn
  refine h _ ⟨I.ok,I.os,I.bare,⟨fun b o e n hb hx=>?_,fun b o e n hb hx=>?_,I.base.free,fun b o e hx=>?_,I.base.tups,I.base.frzs,I.base.tbls⟩,⟨_,hn',fun j y v' e1 e2 e3=>?_⟩,fun y c e=>?_,I.free,I.freeC,fun p hp=>?_,tracked ⟨oL,hoL,I.free⟩ hs,by simpa using I.len⟩ ⟨_,hs,.inl rfl⟩
  ·exact(hs.2 b (F_ (F9 (Gg e) I.ok.above))).trans (I.base.keep b o e n hb hx)
  ·obtain⟨sl,e1⟩:=I.base.slot b o e n hb hx
   exact⟨sl,(hs.2 b (F_ (F9 (Gg e) I.ok.above))).trans e1⟩
  ·obtain⟨o',e1⟩:=I.base.there b o e hx
   exact⟨o',(hs.2 b (F_ (F9 (Gg e) I.ok.above))).trans e1⟩
  ·by_cases hj:j=i
   ·subst hj
    rw[hi]at e1;cases e1
    rw[Gu hiσ]at e2
    cases e2
    exact⟨u,r,.inl ⟨hk,by simp⟩⟩
   ·rw[List.getElem?_set_ne (Ne.symm hj)]at e2
    obtain⟨u',r',q⟩:=hl j y v' e1 e2 e3
    refine⟨u',r',?_⟩
    rcases q with⟨k,e⟩ | ⟨k,c,e,z⟩
    ·refine .inl ⟨k,?_⟩
     have:y≠x:=fun e=>hj (rC hN e1 (e▸hi))
     simp[this,e]
    ·exact .inr ⟨k,c,e,z.sameBut hs (cne y c e)⟩
  ·obtain⟨w',z⟩:=I.cell y c e
   exact⟨w',z.sameBut hs (cne y c e)⟩
  ·obtain⟨e,n,ne,nf,d⟩:=I.pin p hp
   exact⟨(hs.2 p.1 ne).trans e,n,ne,nf,d⟩
 ·have hfn:X.fn x=true:=by
   rcases hf with z | z
   ·exact z
   ·rw[z]at hk;cases hk
  obtain⟨c,hc⟩:=I.ok.has x (.inl hk)
  obtain⟨w',z⟩:=I.cell x c hc
  refine wpAny_storeName_cell I.ok.kind hk hc z (fun h' hc' hs=>?_)
  obtain⟨oc,hoc,hocd⟩:=id z
  refine h {s with heap:=h' } ⟨I.ok,I.os,I.bare,⟨fun b o e n hb hx=>?_,fun b o e n hb hx=>?_,I.base.free,fun b o e hx=>?_,I.base.tups,I.base.frzs,I.base.tbls⟩,⟨m,hn.sameBut hs (Ne.symm (cne x c hc)),fun j y v' e1 e2 e3=>?_⟩,fun y c' e=>?_,I.free,I.freeC,fun p hp=>?_,tracked ⟨oc,hoc,I.freeC x c hc⟩ hs,by simpa using I.len⟩ ⟨c,hs,.inr hc⟩
  ·exact(hs.2 b (F_ (F9 (Gg e) (I.ok.cab x c hfn hc)))).trans (I.base.keep b o e n hb hx)
  ·obtain⟨sl,e1⟩:=I.base.slot b o e n hb hx
   exact⟨sl,(hs.2 b (F_ (F9 (Gg e) (I.ok.cab x c hfn hc)))).trans e1⟩
  ·obtain⟨o',e1⟩:=I.base.there b o e hx
   exact⟨o',(hs.2 b (F_ (F9 (Gg e) (I.ok.cab x c hfn hc)))).trans e1⟩
  ·by_cases hj:j=i
   ·subst hj
    rw[hi]at e1;cases e1
    rw[Gu hiσ]at e2
    cases e2
    exact⟨u,r,.inr ⟨.inl hk,c,hc,hc'⟩⟩
   ·rw[List.getElem?_set_ne (Ne.symm hj)]at e2
    obtain⟨u',r',q⟩:=hl j y v' e1 e2 e3
    refine⟨u',r',?_⟩
    rcases q with q | ⟨k,c',e,z'⟩
    ·exact .inl q
    ·refine .inr ⟨k,c',e,z'.sameBut hs ?_⟩
     rintro rfl
     exact hj (rC hN e1 (I.ok.inj _ _ _ e hc▸hi))
  ·by_cases hcc:c'=c
   ·subst hcc;exact⟨_,hc'⟩
   ·obtain⟨w2,z2⟩:=I.cell y c' e
    exact⟨w2,z2.sameBut hs hcc⟩
  ·obtain⟨e,n,ne,nf,d⟩:=I.pin p hp
   refine⟨(hs.2 p.1 ?_).trans e,n,ne,nf,d⟩
   intro q
   rw[q,hoc]at e
   have q':oc=p.2:=Option.some.inj e
   exact d w' (by rw[<- q'];exact hocd)
theorem qY{M:Model}{A:Around}{E:Value->Shared->Prop}{i:Nat}{x:Str}{v:V}{u:Value}{Q:Unit->Shared->Prop}(I:aH X pins σ H s)(hN:X.N.Nodup)(hi:X.N[i]?=some x)(hx:Bl X.env.scope x)(r:aY v u)
  (h:∀s',aH X pins (σ.set i (some v)) H s'->Q () s') (hf:X.fn x=true\/X.env.scope.names.lookup x=some .local:=by first | exact .inl rfl | exact .inr rfl | assumption):wpAny M A (storeName X.env x u) Q E s:=
 pC I hN hi hx r (fun s' I' _=>h s' I') hf
theorem aH.call'{s':Shared}{ch:List Addr}(I:aH X pins σ H s)(ho:s'.os=s.os)(u:Un (lg X.stack) ch H H' s.heap s'.heap)(hok:i5 X.prog X.w H' s'.heap)(hg:AllBare s'.gens)
  (hch:∀b∈ch,(b∈X.ex\/X.s₀.heap.objs.size<=b)/\b≠X.env.locals/\(∀x c,X.env.cells.lookup x=some c->c≠b)/\∀p∈X.pn++pins,p.1≠b):aH X pins σ H' s':=by
 obtain⟨h',g',d',t',o'⟩:=s'
 have e:o'=s.os:=ho
 subst e
 exact I.call (g':=g') (t':=t') (d':=d') u hok hg hch
end
abbrev XK:=Value->Option Addr->Hp->Prop
abbrev St:=List (Option V)
abbrev VK:=V->Hp->Prop
abbrev TE:=St->Hp->VK->Prop
abbrev TT:=St->Hp->(Bool->Hp->Prop)->Prop
abbrev TA:=St->Hp->(List V->Hp->Prop)->Prop
structure ip where
 nx:St->Hp->Prop
 rt:VK
 bk:St->Hp->Prop:=fun _ _=>False
 ct:St->Hp->Prop:=fun _ _=>False
abbrev TS:=ip->St->Hp->Prop
def EP(X:Cx)(pins:List (Addr×Obj))(σ:St)(Q:VK)(u:Value)(s':Shared):Prop:=∃v H',aH X pins σ H' s'/\aY v u/\Q v H'
def TP(X:Cx)(pins:List (Addr×Obj))(σ:St)(Q:Bool->Hp->Prop)(b:Bool)(s':Shared):Prop:=∃H',aH X pins σ H' s'/\Q b H'
def AP(X:Cx)(pins:List (Addr×Obj))(σ:St)(Q:List V->Hp->Prop)(us:List Value)(s':Shared):Prop:=∃vs H',aH X pins σ H' s'/\aS vs us/\Q vs H'
def SP(X:Cx)(pins:List (Addr×Obj))(D:ip)(f:Flow)(s':Shared):Prop:=
 match f with
 | .next=>∃σ' H',aH X pins σ' H' s'/\D.nx σ' H'
 | .brk=>∃σ' H',aH X pins σ' H' s'/\D.bk σ' H'
 | .cont=>∃σ' H',aH X pins σ' H' s'/\D.ct σ' H'
 | .ret u=>∃v σ' H',aH X pins σ' H' s'/\aY v u/\D.rt v H'
def PE(X:Cx)(e:Expr)(t:TE):Prop:=
 ∀(pins:List (Addr×Obj)) (s:Shared) (σ:St) (H:Hp) (Q:VK),aH X pins σ H s->t σ H Q->wpAny (model X.prog X.w) X.A (eval e X.env) (EP X pins σ Q) X.xe s
def PT(X:Cx)(e:Expr)(t:TT):Prop:=
 ∀(pins:List (Addr×Obj)) (s:Shared) (σ:St) (H:Hp) (Q:Bool->Hp->Prop),aH X pins σ H s->t σ H Q->wpAny (model X.prog X.w) X.A (isTrue e X.env (eval e X.env)) (TP X pins σ Q) X.xe s
def PW(X:Cx)(e:Expr)(t:TT):Prop:=
 ∀(whole:Sem Value) (pins:List (Addr×Obj)) (s:Shared) (σ:St) (H:Hp) (Q:Bool->Hp->Prop),aH X pins σ H s->t σ H Q->wpAny (model X.prog X.w) X.A (isTrue e X.env whole) (TP X pins σ Q) X.xe s
theorem PW.pt{X:Cx}{e:Expr}{t:TT}(h:PW X e t):PT X e t:=h _
def PA(X:Cx)(es:List Expr)(t:TA):Prop:=
 ∀(pos:Pos) (pins:List (Addr×Obj)) (s:Shared) (σ:St) (H:Hp) (Q:List V->Hp->Prop),aH X pins σ H s->t σ H Q->wpAny (model X.prog X.w) X.A (spliced (backTo pos (starEach es X.env))) (AP X pins σ Q) X.xe s
def PS(X:Cx)(st:Stmt)(t:TS):Prop:=
 ∀(pins:List (Addr×Obj)) (s:Shared) (σ:St) (H:Hp) (D:ip),aH X pins σ H s->t D σ H->wpAny (model X.prog X.w) X.A (exec st X.env) (SP X pins D) X.xe s
def qV(X:Cx)(st:List Stmt)(t:TS):Prop:=
 ∀(pins:List (Addr×Obj)) (s:Shared) (σ:St) (H:Hp) (D:ip),aH X pins σ H s->t D σ H->wpAny (model X.prog X.w) X.A (execs st X.env) (SP X pins D) X.xe s
theorem bx{α:Type}{t:Sem α}{Q Q':α->Shared->Prop}{M:Model}{A:Around}{E:Value->Shared->Prop}{s:Shared}(h:wpAny M A t Q E s)(hQ:∀a s,Q a s->Q' a s):wpAny M A t Q' E s:=wpAny_mono h hQ fun _ _ x=>x
section
variable {X:Cx}
theorem FO{a b:Expr}{ta tb:TE}(ha:PE X a ta)(hb:PE X b tb){pins:List (Addr×Obj)}{s:Shared}{σ:St}{H:Hp}{R:V->V->Hp->Prop}(I:aH X pins σ H s)(h:ta σ H fun x H1=>tb σ H1 fun y H2=>R x y H2)
  {α:Type} {Q:α->Shared->Prop} {f:Value->Value->Sem α}
  (hf:∀v u s2 x y H2,aH X pins σ H2 s2->aY x v->aY y u->R x y H2->wpAny (model X.prog X.w) X.A (f v u) Q X.xe s2) :
  wpAny (model X.prog X.w) X.A (eval a X.env) (fun v s₁=>wpAny (model X.prog X.w) X.A (eval b X.env) (fun u s₂=>wpAny (model X.prog X.w) X.A (f v u) Q X.xe s₂) X.xe s₁) X.xe s:=by
 refine bx (ha pins s σ H _ I h) fun v s1 ⟨x,H1,I1,r1,q1⟩=>?_
 refine bx (hb pins s1 σ H1 _ I1 q1) fun u s2 ⟨y,H2,I2,r2,q2⟩=>?_
 exact hf v u s2 x y H2 I2 r1 r2 q2
def b5(i:Nat):TE:=fun σ H Q=>∃v,σ[i]?=some (some v)/\Q v H
def tC(v:V):TE:=fun _ H Q=>Q v H
theorem Av{i:Nat}{x:Str}{pos:Pos}(hN:X.N[i]?=some x)(hv:DB X.env.scope x)(hd:(x==("__debug__":Str))=false:=by decide)(hcd:(x==("__classdict__":Str))=false:=by decide):PE X (.Name x pos) (b5 i):=by
 intro pins s σ H Q I h
 obtain⟨v,e,h⟩:=h
 obtain⟨m,hn,hl⟩:=I.loc
 obtain⟨u,r,l⟩:=hl i x v hN e hv
 have fin:EP X pins σ Q u s:=⟨v,H,I,r,h⟩
 rcases l with⟨hk,hm⟩ | ⟨hk,c,hc,hcell⟩
 ·exact wpAny_Name (wpAny_loadName_local I.ok.kind hk hn hm fin) hd
 ·rcases hk with hk | hk
  ·exact wpAny_Name (wpAny_loadName_cell I.ok.kind hk hc hcell fin) hd
  ·exact wpAny_Name (wpAny_loadName_free I.ok.kind hk hc hcell fin hcd) hd
theorem ag{i j pos}:PE X (.Constant (.int i) j pos) (tC (.int i)):=fun _ _ _ H _ I h=>wpAny_Constant_int ⟨.int i,H,I.tok _,⟨_,rfl⟩,h⟩
theorem oS{b j pos}:PE X (.Constant (.bool b) j pos) (tC (.bl b)):=fun _ _ _ H _ I h=>Constant_bool ⟨.bl b,H,I,rfl,h⟩
theorem m3{j pos}:PE X (.Constant .none j pos) (tC .non):=fun _ _ _ H _ I h=>Constant_none ⟨.non,H,I,rfl,h⟩
theorem cV{x j pos}:PE X (.Constant (.str x) j pos) (tC (.str x)):=fun _ _ _ H _ I h=>Calls.Constant_str ⟨.str x,H,I.tok _,⟨_,rfl⟩,h⟩
def Gl(X:Cx)(x:Str):Prop:=X.env.kindOf x=some .globalImplicit
theorem iO{E:Value->Shared->Prop}{pins:List (Addr×Obj)}{s:Shared}{σ:St}{H:Hp}{x:Str}{u:Value}{pos:Pos}{Q:Value->Shared->Prop}(I:aH X pins σ H s)(hg:Gl X x)(hm:X.mg x=some u)(h:Q u s)
  (hd:(x==("__debug__":Str))=false:=by decide):wpAny (model X.prog X.w) X.A (eval (.Name x pos) X.env) Q E s:=
 Calls.Name_function_global I.ok.kind hg (Calls.loadGlobal_global (by rw[I.ok.glob];exact I.mod.glob.keeps I.bk) hm h) hd
theorem dG{E:Value->Shared->Prop}{pins:List (Addr×Obj)}{s:Shared}{σ:St}{H:Hp}{x:Str}{u:Value}{pos:Pos}{Q:Value->Shared->Prop}(I:aH X pins σ H s)(hg:Gl X x)(hm:X.mg x=none)(hv:bootBuiltins x=some u)(h:Q u s)
  (hn:x≠"__name__":=by decide) (hd:(x==("__debug__":Str))=false:=by decide):wpAny (model X.prog X.w) X.A (eval (.Name x pos) X.env) Q E s:=by
 obtain⟨mb,h1,h2⟩:=I.mod.blt
 exact Calls.Name_function_global I.ok.kind hg (Calls.loadGlobal_builtin (by rw[I.ok.glob];exact I.mod.glob.keeps I.bk) hm (by rw[I.ok.blt];exact h1.keeps I.bk) ((h2 x hn).trans hv) h) hd
theorem dJ{x:Str}{v:V}{u:Value}{pos:Pos}(hg:Gl X x)(hm:X.mg x=some u)(r:aY v u)(hd:(x==("__debug__":Str))=false:=by decide):PE X (.Name x pos) (tC v):=
 fun _ _ _ H _ I h=>iO I hg hm ⟨v,H,I,r,h⟩ hd
theorem mh{x:Str}{v:V}{u:Value}{pos:Pos}(hg:Gl X x)(hm:X.mg x=none)(hv:bootBuiltins x=some u)(r:aY v u)(hn:x≠"__name__":=by decide)(hd:(x==("__debug__":Str))=false:=by decide):PE X (.Name x pos) (tC v):=
 fun _ _ _ H _ I h=>dG I hg hm hv ⟨v,H,I,r,h⟩ hn hd
variable {a b:Expr}{ta tb:TE}{pos:Pos}
def PC(X:Cx)(op:CmpOp)(a b:Expr)(t:TE):Prop:=
 ∀(pins:List (Addr×Obj)) (s:Shared) (σ:St) (H:Hp) (Q:VK),aH X pins σ H s->t σ H Q ->
  wpAny (model X.prog X.w) X.A (eval a X.env) (fun v s₁=>wpAny (model X.prog X.w) X.A (eval b X.env) (fun u s₂=>wpAny (model X.prog X.w) X.A (compareOp op v u) (EP X pins σ Q) X.xe s₂) X.xe s₁) X.xe s
theorem xv(b:Expr){op:CmpOp}(h:op≠.In)(h2:op≠.NotIn):behindInMarks op b=false:=by
 have e1:(op==CmpOp.In)=false:=by cases op<;>first | rfl | exact absurd rfl h
 have e2:(op==CmpOp.NotIn)=false:=by cases op<;>first | rfl | exact absurd rfl h2
 cases b<;>simp[behindInMarks,e1,e2]
def tB(t:TE):TT:=fun σ H Q=>t σ H fun x H1=>∃c,x=.bl c/\Q c H1
theorem AM{op:CmpOp}{t:TE}(h:PC X op a b t)(h1:behindInMarks op b=false:=by first | exact xv _ (by decide) (by decide) | rfl):PT X (.Compare a [op] [b] pos) (tB t):=by
 intro pins s σ H Q I hw
 refine wpAny_isTrue_Compare1 (bx (h pins s σ H _ I hw) fun v s1 h1=>bx h1 fun u s2 h2=>bx h2 fun c s3 ⟨x,H1,I1,r1,q1⟩=>?_) h1
 obtain⟨d,rfl,q⟩:=q1
 cases r1
 exact wpAny_truthy_bool ⟨H1,I1,q⟩
variable {tA tB':TT}{bh:List Expr}
def BE(t u:TT):TT:=fun σ H Q=>t σ H fun c H1=>if c=true then u σ H1 Q else Q false H1
def DQ(t u:TT):TT:=fun σ H Q=>t σ H fun c H1=>if c=true then Q true H1 else u σ H1 Q
def B4(t:TT):TT:=fun σ H Q=>t σ H fun c H1=>Q (!c) H1
theorem qa(ha:PT X a tA):PW X (.BoolOp .And [a] pos) tA:=by
 intro wh pins s σ H Q I h
 refine isTrue_and (bx (ha pins s σ H Q I h) fun c s1 e=>?_)
 cases c with
 |true=>exact isTrue_and_nil e
 |false=>exact e
theorem fQ(ha:PT X a tA):PW X (.BoolOp .Or [a] pos) tA:=by
 intro wh pins s σ H Q I h
 refine isTrue_or (bx (ha pins s σ H Q I h) fun c s1 e=>?_)
 cases c with
 |false=>exact isTrue_or_nil e
 |true=>exact e
theorem m_(ha:PT X a tA)(hb:PW X (.BoolOp .And (b::bh) pos) tB'):PW X (.BoolOp .And (a::b::bh) pos) (BE tA tB'):=by
 intro wh pins s σ H Q I h
 refine isTrue_and (bx (ha pins s σ H _ I h) fun c s1 ⟨H1,I1,q1⟩=>?_)
 cases c with
 |true=>exact hb wh pins s1 σ H1 Q I1 q1
 |false=>exact⟨H1,I1,q1⟩
theorem g9(ha:PT X a tA)(hb:PW X (.BoolOp .Or (b::bh) pos) tB'):PW X (.BoolOp .Or (a::b::bh) pos) (DQ tA tB'):=by
 intro wh pins s σ H Q I h
 refine isTrue_or (bx (ha pins s σ H _ I h) fun c s1 ⟨H1,I1,q1⟩=>?_)
 cases c with
 |true=>exact⟨H1,I1,q1⟩
 |false=>exact hb wh pins s1 σ H1 Q I1 q1
theorem gN(ha:PT X a tA):PT X (.UnaryOp .Not a pos) (B4 tA):=by
 intro pins s σ H Q I h
 exact isTrue_not (ha pins s σ H (fun c H1=>Q (!c) H1) I h)
def Aq(ta tb:TE):TE:=fun σ H Q=>ta σ H fun x H1=>∃c,x=.bl c/\if c=true then tb σ H1 Q else Q (.bl false) H1
def z_(ta:TE):TE:=fun σ H Q=>ta σ H fun x H1=>∃c,x=.bl c/\Q (.bl (!c)) H1
theorem qm{op}{t:TE}(h:PE X a t):PE X (.BoolOp op [a] pos) t:=fun pins s σ H Q I hw=>BoolOp_one (h pins s σ H Q I hw)
theorem mF(ha:PE X a ta)(hb:PE X (.BoolOp .And (b::bh) pos) tb):PE X (.BoolOp .And (a::b::bh) pos) (Aq ta tb):=by
 intro pins s σ H Q I h
 refine BoolOp_and (bx (ha pins s σ H _ I h) fun v s1 ⟨x,H1,I1,r1,q1⟩=>?_)
 obtain⟨c,rfl,q1⟩:=q1
 cases r1
 refine wpAny_truthy_bool ?_
 cases c with
 |true=>exact hb pins s1 σ H1 Q I1 q1
 |false=>exact⟨.bl false,H1,I1,rfl,q1⟩
theorem Az(ha:PE X a ta):PE X (.UnaryOp .Not a pos) (z_ ta):=by
 intro pins s σ H Q I h
 refine UnaryOp_ (bx (ha pins s σ H _ I h) fun v s1 ⟨x,H1,I1,r1,q1⟩=>?_)
 obtain⟨c,rfl,q1⟩:=q1
 cases r1
 exact not_of (wpAny_truthy_bool ⟨.bl (!c),H1,I1,rfl,q1⟩)
def D7(t:TT)(ta tb:TE):TE:=fun σ H Q=>t σ H fun c H1=>if c=true then ta σ H1 Q else tb σ H1 Q
theorem rD{c:Expr}(hc:PT X c tA)(ha:PE X a ta)(hb:PE X b tb):PE X (.IfExp c a b pos) (D7 tA ta tb):=by
 intro pins s σ H Q I h
 refine wpAny_IfExp (bx (hc pins s σ H _ I h) fun d s1 ⟨H1,I1,q1⟩=>?_)
 cases d with
 |true=>exact ha pins s1 σ H1 Q I1 q1
 |false=>exact hb pins s1 σ H1 Q I1 q1
end
def aT(K:PySem.W.Frag)(H:Hp)(a:Addr)(xs:List V):Prop:=
 Rd H a (.lst xs) \/
  ∃(o:Obj) (its:Array Value) (n:Nat),K.lookup a=some o/\o.cls=.type "list"/\o.dict=none/\o.data=.seq its n/\its.size<=sizeLine/\aS xs its.toList
def bq(K:PySem.W.Frag)(H:Hp)(a:Addr)(xs:List V):Prop:=
 Rd H a (.tup xs) \/
  ∃(o:Obj) (its:Array Value) (n:Nat),K.lookup a=some o/\o.cls=.type "tuple"/\o.data=.seq its n/\its.size<=sizeLine/\aS xs its.toList
def Da:Value->Option V
 | .none=>some .non
 | .bool b=>some (.bl b)
 | .int i _=>some (.int i)
 | .str x _=>some (.str x)
 | .bytes b _=>some (.byt b)
 | .float b _=>some (.flt b)
 | .ref a=>some (.ref a)
 | .type n=>some (.ty n)
 |_=>none
theorem aY.abs{x:V}{u:Value}(r:aY x u):Da u=some x:=by
 cases x with
 |non=>cases r;rfl
 |bl _=>cases r;rfl
 |int _=>obtain⟨t,rfl⟩:=r;rfl
 |str _=>obtain⟨t,rfl⟩:=r;rfl
 |byt _=>obtain⟨t,rfl⟩:=r;rfl
 |flt _=>obtain⟨t,rfl⟩:=r;rfl
 |ref _=>cases r;rfl
 |ty _=>cases r;rfl
theorem aY.inj{x y:V}{u:Value}(r:aY x u)(q:aY y u):x=y:=Option.some.inj (r.abs.symm.trans q.abs)
theorem aS.inj:∀{xs ys:List V} {us:List Value},aS xs us->aS ys us->xs=ys
 |_,_,_,.nil,.nil=>rfl
 |_,_,_,.cons r t,.cons r' t'=>by rw[r.inj r',aS.inj t t']
section
variable {X:Cx}{pins:List (Addr×Obj)}{σ:St}{H:Hp}{s:Shared}{a:Addr}{xs ys:List V}
theorem aT.of{K:PySem.W.Frag}(h:H a=some (.lst xs)):aT K H a xs:=.inl (.inl h)
theorem bq.of{K:PySem.W.Frag}(h:H a=some (.tup xs)):bq K H a xs:=.inl (.inl h)
theorem aH.list(I:aH X pins σ H s)(h:aT X.K H a xs):∃its:List Value,aS xs its/\PlainL s.heap a its.toArray/\xs.length<=sizeLine:=by
 rcases h with h | ⟨o,its,n,hk,hc,hd,hs,hz,r⟩
 ·obtain⟨z,its,n,r,e⟩:=h.ok I.hok
  exact⟨its,r,⟨_,n,e,rfl,rfl,rfl⟩,z⟩
 ·refine⟨its.toList,r,⟨o,n,I.kIn a o hk,hc,hd,by simpa using hs⟩,?_⟩
  have e:=r.length
  simp only[Array.length_toList]at e
  omega
theorem aH.tuple(I:aH X pins σ H s)(h:bq X.K H a xs):∃its:List Value,aS xs its/\IsTup s.heap a its.toArray/\xs.length<=sizeLine:=by
 rcases h with h | ⟨o,its,n,hk,hc,hs,hz,r⟩
 ·obtain⟨z,its,r,p⟩:=h.ok I.hok
  exact⟨its,r,p,z⟩
 ·refine⟨its.toList,r,⟨o,I.kIn a o hk,hc,n,by simpa using hs⟩,?_⟩
  have e:=r.length
  simp only[Array.length_toList]at e
  omega
theorem aH.list_inj(I:aH X pins σ H s)(h:aT X.K H a xs)(h':aT X.K H a ys):xs=ys:=by
 obtain⟨its,r,⟨o,n,e,_,_,d⟩,_⟩:=I.list h
 obtain⟨its',r',⟨o',n',e',_,_,d'⟩,_⟩:=I.list h'
 rw[e]at e';cases e'
 rw[d]at d'
 injection d' with d1 _
 have:its=its':=by simpa using congrArg Array.toList d1
 subst this
 exact r.inj r'
theorem aH.tuple_inj(I:aH X pins σ H s)(h:bq X.K H a xs)(h':bq X.K H a ys):xs=ys:=by
 obtain⟨its,r,⟨o,e,_,n,d⟩,_⟩:=I.tuple h
 obtain⟨its',r',⟨o',e',_,n',d'⟩,_⟩:=I.tuple h'
 rw[e]at e';cases e'
 rw[d]at d'
 injection d' with d1 _
 have:its=its':=by simpa using congrArg Array.toList d1
 subst this
 exact r.inj r'
end
abbrev Cx.wish(X:Cx)(E:Value->Shared->Prop):Cx:={X with xe:=E}
abbrev Cx.nox(X:Cx):Cx:=X.wish fun _ _=>False
theorem Cx.Ok.wish{X:Cx}(ok:X.Ok)(E:Value->Shared->Prop):(X.wish E).Ok:=
 ⟨ok.mod,ok.kind,ok.glob,ok.blt,ok.above,ok.inj,ok.has,ok.cab,ok.hd,ok.frames,ok.stk,ok.exf,ok.bs,ok.bsz,ok.noex,ok.exfs,ok.funs,ok.frf⟩
theorem Cx.Ok.unwish{X:Cx}{E:Value->Shared->Prop}(ok:(X.wish E).Ok):X.Ok:=
 ⟨ok.mod,ok.kind,ok.glob,ok.blt,ok.above,ok.inj,ok.has,ok.cab,ok.hd,ok.frames,ok.stk,ok.exf,ok.bs,ok.bsz,ok.noex,ok.exfs,ok.funs,ok.frf⟩
section
variable {X:Cx}{pins:List (Addr×Obj)}{σ:St}{H:Hp}{s:Shared}{E:Value->Shared->Prop}
theorem aH.wish(I:aH X pins σ H s)(E:Value->Shared->Prop):aH (X.wish E) pins σ H s:=⟨I.ok.wish E,I.os,I.bare,I.base,I.loc,I.cell,I.free,I.freeC,I.pin,I.hok,I.len⟩
theorem aH.unwish(I:aH (X.wish E) pins σ H s):aH X pins σ H s:=⟨I.ok.unwish,I.os,I.bare,I.base,I.loc,I.cell,I.free,I.freeC,I.pin,I.hok,I.len⟩
theorem SP.unwish{D:ip}{f:Flow}{s':Shared}(h:SP (X.wish E) pins D f s'):SP X pins D f s':=by
 cases f with
 |next=>obtain⟨σ',H',I,q⟩:=h;exact⟨σ',H',I.unwish,q⟩
 |brk=>obtain⟨σ',H',I,q⟩:=h;exact⟨σ',H',I.unwish,q⟩
 |cont=>obtain⟨σ',H',I,q⟩:=h;exact⟨σ',H',I.unwish,q⟩
 |ret u=>obtain⟨v,σ',H',I,r,q⟩:=h;exact⟨v,σ',H',I.unwish,r,q⟩
theorem qV.nox{st:List Stmt}{t:TS}(h:qV X.nox st t):qV X st t:=fun pins s σ H D I hw=>
 wpAny_mono (h pins s σ H D (I.wish _) hw) (fun _ _ q=>q.unwish) fun _ _ z=>False.elim z
end
section
variable {X:Cx}{st:Stmt}{bh:List Stmt}{t u:TS}{e:Expr}{te:TE}{pos:Pos}
def Al:TS:=fun D σ H=>D.nx σ H
def tM(t u:TS):TS:=fun D σ H=>t {D with nx:=u D} σ H
theorem aM:qV X [] Al:=fun _ _ σ H _ I h=>wpAny_execs_nil ⟨σ,H,I,h⟩
theorem af(h1:PS X st t)(h2:qV X bh u):qV X (st::bh) (tM t u):=by
 intro pins s σ H D I h
 refine wpAny_execs_cons (bx (h1 pins s σ H {D with nx:=u D} I h) fun f s1 q=>?_)
 cases f with
 |next=>
  obtain⟨σ',H',I',q⟩:=q
  exact h2 pins s1 σ' H' D I' q
 |ret v=>exact q
 |brk=>exact q
 |cont=>exact q
theorem ah(h1:PS X st t):qV X [st] t:=by
 intro pins s σ H D I h
 refine wpAny_execs_cons (bx (h1 pins s σ H D I h) fun f s1 q=>?_)
 cases f with
 |next=>exact wpAny_execs_nil q
 |ret v=>exact q
 |brk=>exact q
 |cont=>exact q
theorem aH.quiet{pins:List (Addr×Obj)}{σ:St}{H:Hp}{s:Shared}(I:aH X pins σ H s):interactive X.env=false:=by simp[interactive,I.ok.kind]
def zU(te:TE):TS:=fun D σ H=>te σ H fun _ H1=>D.nx σ H1
theorem bE(he:PE X e te)(hs:swapsWith e none pos.line X.env=pure false:=by rfl):PS X (.Expr e pos) (zU te):=by
 intro pins s σ H D I h
 exact wpAny_Expr_any (bx (he pins s σ H _ I h) fun v s1 ⟨x,H1,I1,r1,q1⟩=>⟨σ,H1,I1,q1⟩) I.quiet hs
def BS(te:TE):TS:=fun D σ H=>te σ H D.rt
theorem aL(he:PE X e te):PS X (.Return (some e) pos) (BS te):=by
 intro pins s σ H D I h
 exact wpAny_Return_some (bx (he pins s σ H _ I h) fun v s1 ⟨x,H1,I1,r1,q1⟩=>⟨x,σ,H1,I1,r1,q1⟩)
def zI(c:TT)(t u:TS):TS:=fun D σ H=>c σ H fun b H1=>if b=true then t D σ H1 else u D σ H1
theorem bd{c:Expr}{a b:List Stmt}{tc:TT}(hc:PT X c tc)(ha:qV X a t)(hb:qV X b u):PS X (.If c a b pos) (zI tc t u):=by
 intro pins s σ H D I h
 refine wpAny_If (bx (hc pins s σ H _ I h) fun d s1 ⟨H1,I1,q1⟩=>?_)
 cases d with
 |true=>exact ha pins s1 σ H1 D I1 q1
 |false=>exact hb pins s1 σ H1 D I1 q1
end
abbrev TG:=V->St->Hp->(St->Hp->Prop)->Prop
abbrev zN:=List V->St->Hp->(St->Hp->Prop)->Prop
def PG(X:Cx)(target:Expr)(t:TG):Prop:=
 ∀(pins:List (Addr×Obj)) (s:Shared) (σ:St) (H:Hp) (v:V) (u:Value) (Q:St->Hp->Prop),aH X pins σ H s->aY v u->t v σ H Q ->
  wpAny (model X.prog X.w) X.A (assign target X.env u) (fun _ s'=>∃σ' H',aH X pins σ' H' s'/\Q σ' H') X.xe s
def Bx(X:Cx)(ts:List Expr)(t:zN):Prop:=
 ∀(pins:List (Addr×Obj)) (s:Shared) (σ:St) (H:Hp) (vs:List V) (us:List Value) (Q:St->Hp->Prop),aH X pins σ H s->aS vs us->t vs σ H Q ->
  wpAny (model X.prog X.w) X.A (assignInOrder ((assignEach ts X.env).map (·.2)) us) (fun _ s'=>∃σ' H',aH X pins σ' H' s'/\Q σ' H') X.xe s
abbrev Bh:=V->V->V->Hp->(Hp->Prop)->Prop
def Bs(X:Cx)(t:Bh):Prop:=
 ∀(pins:List (Addr×Obj)) (s:Shared) (σ:St) (H:Hp) (o i v:V) (ov iv u:Value) (Q:Hp->Prop),aH X pins σ H s->aY o ov->aY i iv->aY v u->t o i v H Q ->
  wpAny (model X.prog X.w) X.A (setItem ov iv u) (fun _ s'=>∃H',aH X pins σ H' s'/\Q H') X.xe s
section
variable {X:Cx}{pos:Pos}
def bZ(i:Nat):TG:=fun v σ H Q=>Q (σ.set i (some v)) H
theorem aF{i:Nat}{x:Str}(hN:X.N.Nodup)(hi:X.N[i]?=some x)(hx:Bl X.env.scope x)(hf:X.fn x=true\/X.env.scope.names.lookup x=some .local:=by first | exact .inl rfl | exact .inr rfl | assumption):PG X (.Name x pos) (bZ i):=by
 intro pins s σ H v u Q I r h
 exact wpAny_assign_Name (qY I hN hi hx r (fun s' I'=>⟨_,H,I',h⟩) hf)
def AU:zN:=fun vs σ H Q=>vs=[]/\Q σ H
def xU(t:TG)(u:zN):zN:=fun vs σ H Q=>∃v r,vs=v::r/\t v σ H fun σ' H'=>u r σ' H' Q
theorem eM:Bx X [] AU:=by
 intro pins s σ H vs us Q I r h
 obtain⟨e,h⟩:=h
 subst e
 cases r
 exact assignInOrder_nil ⟨σ,H,I,h⟩
theorem bj{e:Expr}{es:List Expr}{t:TG}{u:zN}(h1:PG X e t)(h2:Bx X es u)
  (hs:(assignEach (e::es) X.env).map (·.2)=assign e X.env::(assignEach es X.env).map (·.2):=by rfl):Bx X (e::es) (xU t u):=by
 intro pins s σ H vs us Q I r h
 obtain⟨v,vr,e1,h⟩:=h
 subst e1
 cases r with
 |cons r rr=>
  rw[hs]
  refine assignInOrder_cons (bx (h1 pins s σ H _ _ _ I r h) fun _ s1 ⟨σ1,H1,I1,q1⟩=>?_)
  exact h2 pins s1 σ1 H1 _ _ Q I1 rr q1
def A_(K:PySem.W.Frag)(n:Nat)(t:zN):TG:=fun v σ H Q=>∃a xs,v=.ref a/\bq K H a xs/\xs.length=n/\t xs σ H Q
theorem im{es:List Expr}{k:Nat}{t:zN}{n:Nat}(hc:X.calm=true)(h:Bx X es t)
  (hn:(assignEach es X.env).length=n:=by rfl) (hst:(assignEach es X.env).findIdx? (·.1)=none:=by rfl):PG X (.Tuple es k pos) (A_ X.K n t):=by
 intro pins s σ H v u Q I r hw
 obtain⟨a,xs,e1,hq,hl,hw⟩:=hw
 subst e1
 cases r
 obtain⟨its,rv,ht,hz⟩:=I.tuple hq
 refine assign_Tuple_tuple (I.ok.hd hc) ht (by simp[hn,<- hl,rv.length]) hst fun h' hx=>?_
 have I1:aH X pins σ H {s with heap:=h' }:=I.kept (t':=s.toks) fun b o e=>hx b o (F_ (Gg e)) e
 exact h pins _ σ H xs _ Q I1 (by simpa using rv) hw
def Ca(to ti:TE)(t:Bh):TG:=fun v σ H Q=>to σ H fun o H1=>ti σ H1 fun i H2=>t o i v H2 fun H3=>Q σ H3
theorem Ba{o i:Expr}{to ti:TE}{t:Bh}(ho:PE X o to)(hi:PE X i ti)(hs:Bs X t)
  (ha:∀v,assign (.Subscript o i pos) X.env v=(do
   let ov <- holding [v] (eval o X.env)
   let iv <- holding [v,ov] (eval i X.env)
   standAt pos
   holding [v,ov,iv] (setItem ov iv v)
   release [v,ov,iv] []):=by intro _;rfl):PG X (.Subscript o i pos) (Ca to ti t):=by
 intro pins s σ H v u Q I r h
 rw[ha]
 refine wpAny_bind (wpAny_holding (bx (ho pins s σ H _ I h) fun ov s1 ⟨x,H1,I1,r1,q1⟩=>?_))
 refine wpAny_bind (wpAny_holding (bx (hi pins s1 σ H1 _ I1 q1) fun iv s2 ⟨y,H2,I2,r2,q2⟩=>?_))
 refine wpAny_bind (wpAny_standAt (wpAny_bind (wpAny_holding (bx (hs pins s2 σ H2 x y v ov iv u _ I2 r1 r2 r q2) fun _ s3 ⟨H3,I3,q3⟩=>?_))))
 exact wpAny_release ⟨σ,H3,I3,q3⟩
def xO(te:TE)(g:TG):TS:=fun D σ H=>te σ H fun x H1=>g x σ H1 D.nx
theorem ld{tg e:Expr}{te:TE}{g:TG}(he:PE X e te)(hg:PG X tg g)(hs:swapsWithSole [tg] e pos.line X.env=pure false:=by rfl)(hw:swappedStores [tg] e X.env=pure none:=by rfl)
  (h1:(assignEach [tg] X.env).map (·.2)=[assign tg X.env]:=by rfl):PS X (.Assign [tg] e pos) (xO te g):=by
 intro pins s σ H D I h
 refine wpAny_Assign_stores (bx (he pins s σ H _ I h) fun v s1 ⟨x,H1,I1,r1,q1⟩=>?_) hs hw
 rw[h1]
 exact bx (hg pins s1 σ H1 x v _ I1 r1 q1) fun _ s2 q=>q
theorem ay{i:Nat}{x:Str}{e:Expr}{te:TE}{pos':Pos}(hN:X.N.Nodup)(hi:X.N[i]?=some x)(hx:Bl X.env.scope x)(he:PE X e te)(hs:swapsWith e (some (.Name x pos')) pos.line X.env=pure false:=by rfl)(hf:X.fn x=true\/X.env.scope.names.lookup x=some .local:=by first | exact .inl rfl | exact .inr rfl | assumption) :
  PS X (.Assign [.Name x pos'] e pos) (xO te (bZ i)):=by
 intro pins s σ H D I h
 refine wpAny_Assign_Name (bx (he pins s σ H _ I h) fun v s1 ⟨y,H1,I1,r1,q1⟩=>?_) hs
 exact qY I1 hN hi hx r1 (fun s2 I2=>⟨_,H1,I2,q1⟩) hf
end
section
variable {X:Cx}{pos:Pos}
def sI(c:TT)(tb:TS):TS:=fun D σ H=>∃W:Nat->St->Hp->Prop,(∃m,W m σ H)/\∀m σ H,W m σ H ->
 c σ H fun b H1=>if b=true then ∃N:St->Hp->Prop,(∀σ' H',N σ' H'->∃m',m'<m/\W m' σ' H')/\tb {D with nx:=N,ct:=N,bk:=D.nx} σ H1 else D.nx σ H1
theorem m8{c:Expr}{body:List Stmt}{tc:TT}{tb:TS}(hp:PassesOwn (model X.prog X.w) X.A X.env X.xe)(hc:PT X c tc)(hb:qV X body tb):PS X (.While c body [] pos) (sI tc tb):=by
 intro pins s σ H D I h
 obtain⟨W,⟨m0,w0⟩,turn⟩:=h
 refine wpAny_While (codeAny_whileLoop (fun n s'=>∃σ' H',aH X pins σ' H' s'/\W n σ' H') ?_ m0 ⟨σ,H,I,w0⟩)
 rintro n s1 ⟨σ1,H1,I1,w1⟩
 refine wpAny_passesOwn hp (bx (hc pins s1 σ1 H1 _ I1 (turn n σ1 H1 w1)) fun b s2 ⟨H2,I2,q2⟩=>?_)
 cases b with
 |true=>
  obtain⟨N,hN,q2⟩:=q2
  rw[if_pos rfl]
  refine wpAny_passesOwn hp (bx (hb pins s2 σ1 H2 _ I2 q2) fun f s3 q3=>?_)
  cases f with
  |next=>
   obtain⟨σ3,H3,I3,n3⟩:=q3
   obtain⟨m',hm,w3⟩:=hN σ3 H3 n3
   exact⟨m',hm,σ3,H3,I3,w3⟩
  |cont=>
   obtain⟨σ3,H3,I3,n3⟩:=q3
   obtain⟨m',hm,w3⟩:=hN σ3 H3 n3
   exact⟨m',hm,σ3,H3,I3,w3⟩
  |brk=>exact q3
  |ret v=>exact q3
 |false=>
  rw[if_neg Gf]
  exact wpAny_execs_nil ⟨σ1,H2,I2,q2⟩
end
structure It where
 go:Nat->Hp->Prop
 yld:Nat->Hp->V->Hp->Prop
 stop:Nat->Hp->Prop
def ma(X:Cx)(pins:List (Addr×Obj))(H:Hp)(b:Addr):Prop:=
 H b=none/\b≠X.env.locals/\b∉X.fs/\(b∈X.ex\/X.s₀.heap.objs.size<=b)/\(∀x c,X.env.cells.lookup x=some c->c≠b)/\∀p∈X.pn++pins,p.1≠b
theorem aH.fpOk{X:Cx}{pins:List (Addr×Obj)}{σ:St}{H H':Hp}{s:Shared}{b:Addr}(I:aH X pins σ H s)(hb:s.heap.objs.size<=b)(hn:H' b=none):ma X pins H' b:=by
 refine⟨hn,Nat.ne_of_gt (F9 I.lt hb),I.nofs hb,.inr (Gn I.sz hb),fun x c e z=>?_,fun p hp z=>?_⟩
 ·obtain⟨v,q⟩:=I.cell x c e
  exact absurd (F9 q.lt (by rw[z];exact hb)) (Go _)
 ·exact absurd (F9 (Gg (I.pin p hp).1) (by rw[z];exact hb)) (Go _)
structure pP(P:Program)(w:World)(K:PySem.W.Frag)(tg:Expr)(J:It)(fp:List Addr)(it:Addr)(tn:Nat->Heap->Prop):Prop where
 mem:it∈fp
 obj:∀i h,tn i h->∀b∈fp,∃o,h.get? b=some o/\∀v,o.data≠.cell v
 keep:∀i h h',tn i h->(∀b∈fp,∀o,h.get? b=some o->h'.get? b=some o)->tn i h'
 item:∀(X:Cx),X.prog=P->X.w=w->X.K=K->X.calm=true->∀(i:Nat) (pins:List (Addr×Obj)) (s:Shared) (σ:St) (H:Hp) (E:Value->Shared->Prop),aH X pins σ H s->(∀b∈fp,ma X pins H b)->tn i s.heap->J.go i H ->
  wpAny (model P w) X.A (pyNext (.ref it)) (fun r s1=>∃u,r=some u /\
   wpAny (model P w) X.A (letOwnedTupleGo tg (.ref it) u) (fun _ s2=>∃x H',aH X pins σ H' s2/\aY x u/\J.yld i H x H'/\tn (i+1) s2.heap/\∀b∈fp,H' b=none) E s1) E s
 done:∀(X:Cx),X.prog=P->X.w=w->X.K=K->X.calm=true->∀(i:Nat) (pins:List (Addr×Obj)) (s:Shared) (σ:St) (H:Hp) (E:Value->Shared->Prop),aH X pins σ H s->(∀b∈fp,ma X pins H b)->tn i s.heap->J.stop i H ->
  wpAny (model P w) X.A (pyNext (.ref it)) (fun r s1=>r=none/\aH X pins σ H s1) E s
 self:∀(A:Around) (i:Nat) (s:Shared) (Q:Value->Shared->Prop) (E:Value->Shared->Prop),tn i s.heap->Q (.ref it) s->wpAny (model P w) A (pyIter (.ref it)) Q E s
abbrev TI:=St->Hp->(It->Hp->Prop)->Prop
def Co(X:Cx)(pins:List (Addr×Obj))(σ:St)(tg:Expr)(R:It->Hp->Prop)(itv:Value)(s2:Shared):Prop:=
 ∃(it:Addr) (fp:List Addr) (tn:Nat->Heap->Prop) (J:It) (H':Hp),itv=.ref it/\aH X pins σ H' s2/\pP X.prog X.w X.K tg J fp it tn/\tn 0 s2.heap/\(∀b∈fp,ma X pins H' b)/\R J H'
def PI(X:Cx)(tg iter:Expr)(wi:TI):Prop:=
 ∀(pins:List (Addr×Obj)) (s:Shared) (σ:St) (H:Hp) (R:It->Hp->Prop),aH X pins σ H s->wi σ H R ->
  wpAny (model X.prog X.w) X.A (eval iter X.env) (fun v s1=>wpAny (model X.prog X.w) X.A (pyIter v) (Co X pins σ tg R) X.xe s1) X.xe s
theorem or{M:Model}{A:Around}{E:Value->Shared->Prop}{s:Shared}{tg:Expr}{it:Addr}{u:Value}{o:Obj}{n:String}{vs:Array Value}{Q:Unit->Shared->Prop}(ho:s.heap.get? it=some o)(hc:o.cls=.type n)(hd:o.data=.fields vs)
  (hn:["enumerate","zip","dict_itemiterator","dict_reverseitemiterator","odict_iterator","itertools.zip_longest","itertools.pairwise"].contains n=false) (hQ:Q () s):wpAny M A (letOwnedTupleGo tg (.ref it) u) Q E s:=by
 unfold letOwnedTupleGo
 cases tg<;>first
  |exact wpAny_pure hQ
  | (cases u<;>first
    |exact wpAny_pure hQ
    | (refine wpAny_bind (wpAny_load ho ?_)
       rw[hc,hd]
       show wpAny M A (if(["enumerate","zip","dict_itemiterator","dict_reverseitemiterator","odict_iterator","itertools.zip_longest","itertools.pairwise"].contains n&&vs[0]?==some (rawInt _))=true then _ else _) Q E s
       rw[if_neg (by intro h;rw[hn,Bool.false_and]at h;cases h)]
       exact wpAny_pure hQ))
def yG(K:PySem.W.Frag)(a:Addr):It:=
 ⟨fun i H=>∃xs x,aT K H a xs/\xs[i]?=some x,fun i H x H'=>H'=H/\∀xs,aT K H a xs->xs[i]?=some x,fun i H=>∃xs,aT K H a xs/\xs.length<=i⟩
def Bp(K:PySem.W.Frag)(a:Addr):It:=
 ⟨fun i H=>∃xs x,bq K H a xs/\xs[i]?=some x,fun i H x H'=>H'=H/\∀xs,bq K H a xs->xs[i]?=some x,fun i H=>∃xs,bq K H a xs/\xs.length<=i⟩
def yL(lo:Int)(n:Nat):It:=⟨fun i _=>i<n,fun i H x H'=>H'=H/\x=.int (lo+i),fun i _=>n<=i⟩
theorem vI{P:Program}{w:World}{K:PySem.W.Frag}{tg:Expr}(a it:Addr):pP P w K tg (yG K a) [it] it (fun i h=>h.IsListIter it a i) where
 mem:=by simp
 obj:=fun i h st b hb=>by
  have e:b=it:=by simpa using hb
  subst e
  obtain⟨o,e,c,d⟩:=st
  exact⟨o,e,fun v z=>by rw[d]at z;cases z⟩
 keep:=fun i h h' st k=>st.at fun o e=>k it (by simp) o e
 item:=by
  intro X hP hw hK hc i pins s σ H E I hf st hg
  subst hP hw hK
  obtain⟨xs,x,hq,hx⟩:=hg
  obtain⟨its,rv,p,hz⟩:=I.list hq
  obtain⟨u,hu,ru⟩:=rv.get hx
  obtain⟨f0,f1,f2,f3,f4,f5⟩:=hf it (by simp)
  refine wpAny_pyNext_list_item st p.isList (x:=u) (by simpa using hu) fun h' st' sb=>?_
  have I1:aH X pins σ H {s with heap:=h' }:=I.turned (t':=s.toks) (fun b o hb e=>(sb.2 b hb).trans e) f0 f1 f3 f4 f5
  obtain⟨o,e,c,d⟩:=id st'
  exact⟨u,rfl,or (s:={s with heap:=h' }) e c d (by decide) ⟨x,H,I1,ru,⟨rfl,fun ys hy=>by rw[I.list_inj hy hq];exact hx⟩,st',fun b hb=>(hf b hb).1⟩⟩
 done:=by
  intro X hP hw hK hc i pins s σ H E I hf st hg
  subst hP hw hK
  obtain⟨xs,hq,hx⟩:=hg
  obtain⟨its,rv,p,hz⟩:=I.list hq
  obtain⟨f0,f1,f2,f3,f4,f5⟩:=hf it (by simp)
  have hl:=rv.length
  exact wpAny_pyNext_list_end (I.ok.hd hc) st p.isList (by simp;omega) fun h' eb=>⟨rfl,I.turned (t':=s.toks) (fun b o hb e=>eb b o hb e) f0 f1 f3 f4 f5⟩
 self:=fun _ _ _ _ _ st h=>wpAny_pyIter_listiter st h
theorem sM{P:Program}{w:World}{K:PySem.W.Frag}{tg:Expr}(a it:Addr):pP P w K tg (Bp K a) [it] it (fun i h=>h.IsTupleIter it a i) where
 mem:=by simp
 obj:=fun i h st b hb=>by
  have e:b=it:=by simpa using hb
  subst e
  obtain⟨o,e,c,d⟩:=st
  exact⟨o,e,fun v z=>by rw[d]at z;cases z⟩
 keep:=fun i h h' st k=>st.at fun o e=>k it (by simp) o e
 item:=by
  intro X hP hw hK hc i pins s σ H E I hf st hg
  subst hP hw hK
  obtain⟨xs,x,hq,hx⟩:=hg
  obtain⟨its,rv,p,hz⟩:=I.tuple hq
  obtain⟨u,hu,ru⟩:=rv.get hx
  obtain⟨f0,f1,f2,f3,f4,f5⟩:=hf it (by simp)
  refine wpAny_pyNext_tuple_item st (show s.heap.IsTuple a its.toArray from p) (x:=u) (by simpa using hu) fun h' st' sb=>?_
  have I1:aH X pins σ H {s with heap:=h' }:=I.turned (t':=s.toks) (fun b o hb e=>(sb.2 b hb).trans e) f0 f1 f3 f4 f5
  obtain⟨o,e,c,d⟩:=id st'
  exact⟨u,rfl,or (s:={s with heap:=h' }) e c d (by decide) ⟨x,H,I1,ru,⟨rfl,fun ys hy=>by rw[I.tuple_inj hy hq];exact hx⟩,st',fun b hb=>(hf b hb).1⟩⟩
 done:=by
  intro X hP hw hK hc i pins s σ H E I hf st hg
  subst hP hw hK
  obtain⟨xs,hq,hx⟩:=hg
  obtain⟨its,rv,p,hz⟩:=I.tuple hq
  obtain⟨f0,f1,f2,f3,f4,f5⟩:=hf it (by simp)
  have hl:=rv.length
  exact wpAny_pyNext_tuple_end (I.ok.hd hc) st (show s.heap.IsTuple a its.toArray from p) (by simp;omega) fun h' eb=>⟨rfl,I.turned (t':=s.toks) (fun b o hb e=>eb b o hb e) f0 f1 f3 f4 f5⟩
 self:=fun _ _ _ _ _ st h=>wpAny_pyIter_tupleiter st h
theorem uv{P:Program}{w:World}{K:PySem.W.Frag}{tg:Expr}(it:Addr)(lo:Int)(n:Nat):pP P w K tg (yL lo n) [it] it (fun i h=>IsRangeIter h it (lo+(i:Nat)*1) ((n:Int)-(i:Nat)) 1) where
 mem:=by simp
 obj:=fun i h st b hb=>by
  have e:b=it:=by simpa using hb
  subst e
  exact⟨_,st,fun v z=>by
   have z':Data.fields _=Data.cell v:=z
   cases z'⟩
 keep:=fun i h h' st k=>k it (by simp) _ st
 item:=by
  intro X hP hw hK hc i pins s σ H E I hf st hg
  subst hP hw hK
  obtain⟨f0,f1,f2,f3,f4,f5⟩:=hf it (by simp)
  have W:=Walks.range (prog:=X.prog) (w:=X.w) (I.ok.hd hc) it lo 1 n
  refine W.item i s _ _ hg st fun v h' tk hv st' kk=>?_
  obtain⟨t,rfl⟩:=hv
  have I1:aH X pins σ H {s with heap:=h',toks:=tk}:=I.turned (fun b o hb e=>kk b o (by simpa using hb) e) f0 f1 f3 f4 f5
  refine⟨_,rfl,or (s:={s with heap:=h',toks:=tk}) (n:="range_iterator") st' rfl rfl (by decide) ⟨.int (lo+i),H,I1,⟨t,?_⟩,⟨rfl,rfl⟩,st',fun b hb=>(hf b hb).1⟩⟩
  rw[Int.mul_one]
 done:=by
  intro X hP hw hK hc i pins s σ H E I hf st hg
  subst hP hw hK
  obtain⟨f0,f1,f2,f3,f4,f5⟩:=hf it (by simp)
  exact wpAny_pyNext_range_end (I.ok.hd hc) st (by have:n<=i:=hg;omega) fun h' eb=>⟨rfl,I.turned (t':=s.toks) (fun b o hb e=>eb b o hb e) f0 f1 f3 f4 f5⟩
 self:=fun _ _ _ _ _ st h=>wpAny_pyIter_rangeiter st h
section
variable {X:Cx}{tg:Expr}
def Ad(K:PySem.W.Frag)(tl:TE):TI:=fun σ H R=>tl σ H fun x H1=>∃a,x=.ref a/\(∃xs,aT K H1 a xs)/\R (yG K a) H1
def B6(K:PySem.W.Frag)(tl:TE):TI:=fun σ H R=>tl σ H fun x H1=>∃a,x=.ref a/\(∃xs,bq K H1 a xs)/\R (Bp K a) H1
theorem cC{l:Expr}{tl:TE}(hl:PE X l tl):PI X tg l (Ad X.K tl):=by
 intro pins s σ H R I h
 refine bx (hl pins s σ H _ I h) fun v s1 ⟨x,H1,I1,r1,q1⟩=>?_
 obtain⟨a,e,⟨xs,hq⟩,q⟩:=q1
 subst e
 cases r1
 obtain⟨its,rv,p,hz⟩:=I1.list hq
 refine wpAny_pyIter_list p.isList ?_
 refine⟨s1.heap.objs.size,[s1.heap.objs.size],_,_,H1,rfl,I1.kept (t':=s1.toks) fun b o e=>FR _ e,vI a _,⟨_,FX _ rfl,rfl,rfl⟩,fun b hb=>?_,q⟩
 have e:b=s1.heap.objs.size:=by simpa using hb
 subst e
 exact I1.fpOk (Gc _) (I1.hok.fresh (Gc _))
theorem ul{l:Expr}{tl:TE}(hl:PE X l tl):PI X tg l (B6 X.K tl):=by
 intro pins s σ H R I h
 refine bx (hl pins s σ H _ I h) fun v s1 ⟨x,H1,I1,r1,q1⟩=>?_
 obtain⟨a,e,⟨xs,hq⟩,q⟩:=q1
 subst e
 cases r1
 obtain⟨its,rv,p,hz⟩:=I1.tuple hq
 refine wpAny_pyIter_tuple (show s1.heap.IsTuple a its.toArray from p) ?_
 refine⟨s1.heap.objs.size,[s1.heap.objs.size],_,_,H1,rfl,I1.kept (t':=s1.toks) fun b o e=>FR _ e,sM a _,⟨_,FX _ rfl,rfl,rfl⟩,fun b hb=>?_,q⟩
 have e:b=s1.heap.objs.size:=by simpa using hb
 subst e
 exact I1.fpOk (Gc _) (I1.hok.fresh (Gc _))
theorem xk{pins:List (Addr×Obj)}{σ:St}{H:Hp}{s:Shared}{R:It->Hp->Prop}{E:Value->Shared->Prop}{lo hi:Int}{t u v:Tok}{tk:Nat}(I:aH X pins σ H s)(h1:-(2 ^ 62)<=lo)(h2:lo<2 ^ 62)(h3:-(2 ^ 62)<=hi)(h4:hi<2 ^ 62)
  (q:R (yL lo (hi-lo).toNat) H):wpAny (model X.prog X.w) X.A (pyIter (.ref s.heap.objs.size)) (Co X pins σ tg R) E {s with heap:=s.heap.push {cls:=.type "range",data:=.fields #[.int lo t,.int hi u,.int 1 v]},toks:=tk}:=by
 refine wpAny_pyIter_range (IsRange.new ..) (small_one h1 h2 h3 h4) ?_
 have I1:aH X pins σ H {s with heap:=s.heap.push {cls:=.type "range",data:=.fields #[.int lo t,.int hi u,.int 1 v]},toks:=tk}:=I.kept fun b o e=>FR _ e
 refine⟨(s.heap.push {cls:=.type "range",data:=.fields #[.int lo t,.int hi u,.int 1 v]}).objs.size,[(s.heap.push {cls:=.type "range",data:=.fields #[.int lo t,.int hi u,.int 1 v]}).objs.size],_,_,H,rfl,
  I1.kept (t':=tk) fun b o e=>FR _ e,uv _ lo (hi-lo).toNat,?_,fun b hb=>?_,q⟩
 ·have e1:lo+((0:Nat):Int)*1=lo:=by simp
  have e2:(((hi-lo).toNat:Nat):Int)-((0:Nat):Int)=Builtin.Range.rangeSize lo hi 1:=by rw[rangeSize_one];split<;>omega
  show IsRangeIter _ _ (lo+((0:Nat):Int)*1) ((((hi-lo).toNat:Nat):Int)-((0:Nat):Int)) 1
  rw[e1,e2]
  exact FX _ rfl
 ·have e:b=(s.heap.push {cls:=.type "range",data:=.fields #[.int lo t,.int hi u,.int 1 v]}).objs.size:=by simpa using hb
  subst e
  exact I1.fpOk (Gc _) (I1.hok.fresh (Gc _))
def zQ(ta:TA):TI:=fun σ H R=>ta σ H fun vs H1=>∃j:Int,vs=[.int j]/\-(2 ^ 62)<=j/\j<2 ^ 62/\R (yL 0 j.toNat) H1
theorem bR{a:Expr}{ta:TA}{p pos:Pos}(hg:Gl X "range")(hm:X.mg "range"=none)(ha:PA X [a] ta)(hs:starEach [a] X.env=[(false,eval a X.env)]:=by rfl):PI X tg (.Call (.Name "range" p) [a] [] pos) (zQ ta):=by
 intro pins s σ H R I h
 refine Call_ (dG I hg hm boot_range (PyProof.Rows.callWith_type1 (bx (ha pos pins s σ H _ I h) fun us s1 ⟨vs,H1,I1,r1,q1⟩=>?_) hs rfl))
 obtain⟨j,e,q1,q2,q⟩:=q1
 subst e
 cases r1 with
 |cons r rr=>
  cases rr
  obtain⟨t,rfl⟩:=r
  exact call_range_1 (xk I1 (by omega) (by omega) q1 q2 (by simpa using q))
def Dg(wi:TI)(g:TG)(tb:TS):TS:=fun D σ H=>wi σ H fun J H1=>∃W:Nat->Nat->St->Hp->Prop,(∃m,W 0 m σ H1)/\∀i m σ H,W i m σ H ->
 (J.stop i H/\D.nx σ H)\/(J.go i H/\∃N:St->Hp->Prop,(∀σ' H',N σ' H'->∃m',m'<m/\W (i+1) m' σ' H')/\∀x H',J.yld i H x H'->g x σ H' fun σ2 H2=>tb {D with nx:=N,ct:=N,bk:=D.nx} σ2 H2)
def mT(fp:List Addr)(h:Heap):List (Addr×Obj):=fp.filterMap fun b=>(h.get? b).map fun o=>(b,o)
theorem gi{fp:List Addr}{h:Heap}{b:Addr}{o:Obj}(hb:b∈fp)(e:h.get? b=some o):(b,o)∈mT fp h:=List.mem_filterMap.mpr ⟨b,hb,by rw[e];rfl⟩
theorem vP{fp:List Addr}{h:Heap}{p:Addr×Obj}(hp:p∈mT fp h):p.1∈fp/\h.get? p.1=some p.2:=by
 obtain⟨b,hb,e⟩:=List.mem_filterMap.mp hp
 cases q:h.get? b with
 |none=>rw[q]at e;cases e
 |some o=>
  rw[q]at e
  have e':(b,o)=p:=Option.some.inj e
  subst e'
  exact⟨hb,q⟩
theorem aH.pinned{pins:List (Addr×Obj)}{σ:St}{H:Hp}{s:Shared}{fp:List Addr}(I:aH X pins σ H s)(hf:∀b∈fp,ma X pins H b)(ho:∀b∈fp,∃o,s.heap.get? b=some o/\∀v,o.data≠.cell v):aH X (pins++mT fp s.heap) σ H s:=
 I.pins_of fun p hp=>(F4.mp hp).elim (fun z=>I.pin p (List.mem_append_right _ z)) fun z=>by
  obtain⟨hb,e⟩:=vP z
  obtain⟨f0,f1,f2,_⟩:=hf p.1 hb
  obtain⟨o,e',d⟩:=ho p.1 hb
  rw[e]at e';cases e'
  exact⟨e,f0,f1,f2,d⟩
theorem aH.unpinned{pins pl:List (Addr×Obj)}{σ:St}{H:Hp}{s:Shared}(I:aH X (pins++pl) σ H s):aH X pins σ H s:=I.pins_of fun p hp=>I.pin p (List.mem_append_right _ (List.mem_append_left _ hp))
theorem Ay{iter:Expr}{body:List Stmt}{wi:TI}{g:TG}{tb:TS}{pos:Pos}(hp:PassesOwn (model X.prog X.w) X.A X.env X.xe)(hc:X.calm=true)(hi:PI X tg iter wi)(hg:PG X tg g)(hb:qV X body tb)
  (hs:∀x,foldedSetIterable iter X.env x=pure x:=by intro _;rfl):PS X (.For tg iter body [] pos) (Dg wi g tb):=by
 intro pins s σ H D I h
 refine wpAny_For (bx (hi pins s σ H _ I h) fun v s1 h1=>bx h1 fun itv s2 h2=>?_) hs
 obtain⟨it,fp,tn,J,H2,e,I2,T,st2,f2,W,⟨m0,w0⟩,turn⟩:=h2
 subst e
 -- what stays true of the iterator's objects through the loop
 have stat:∀{H':Hp},(∀b∈fp,H' b=none)->∀b∈fp,ma X pins H' b:=fun hn b hb=>⟨hn b hb,(f2 b hb).2⟩
 refine codeAny_forLoop_any (fun n s'=>∃i σ' H',aH X pins σ' H' s'/\tn i s'.heap/\(∀b∈fp,H' b=none)/\W i n σ' H') ?_ m0 ⟨0,σ,H2,I2,st2,fun b hb=>(f2 b hb).1,w0⟩
 rintro n s3 ⟨i,σ3,H3,I3,st3,fr3,w3⟩
 rcases turn i n σ3 H3 w3 with⟨stop,qn⟩ | ⟨go,N,hN,step⟩
 ·refine wpAny_passesOwn hp (bx (T.done X rfl rfl rfl hc i pins s3 σ3 H3 X.xe I3 (stat fr3) st3 stop) fun r s4 ⟨hr,I4⟩=>?_)
  subst hr
  exact wpAny_execs_nil ⟨σ3,H3,I4,qn⟩
 ·refine wpAny_passesOwn hp (bx (T.item X rfl rfl rfl hc i pins s3 σ3 H3 X.xe I3 (stat fr3) st3 go) fun r s4 ⟨u,hr,h4⟩=>?_)
  subst hr
  refine wpAny_passesOwn hp (bx h4 fun _ s5 ⟨x,H5,I5,r5,y5,st5,fr5⟩=>?_)
  have I5':=I5.pinned (stat fr5) (T.obj _ _ st5)
  refine wpAny_passesOwn hp (bx (hg _ s5 σ3 H5 x u _ I5' r5 (step x H5 y5)) fun _ s6 ⟨σ6,H6,I6,q6⟩=>?_)
  refine wpAny_passesOwn hp (bx (hb _ s6 σ6 H6 _ I6 q6) fun f s7 q7=>?_)
  have again:∀{σ7:St} {H7:Hp},aH X (pins++mT fp s5.heap) σ7 H7 s7->N σ7 H7->∃m,m<n/\∃i σ' H',aH X pins σ' H' s7/\tn i s7.heap/\(∀b∈fp,H' b=none)/\W i m σ' H':=fun{σ7 H7} I7 n7=>by
   obtain⟨m',hm,w7⟩:=hN σ7 H7 n7
   refine⟨m',hm,i+1,σ7,H7,I7.unpinned,T.keep _ _ _ st5 fun b hb o e=>(I7.pin (b,o) (List.mem_append_right _ (List.mem_append_right _ (gi hb e)))).1,fun b hb=>?_,w7⟩
   obtain⟨o,e,d⟩:=T.obj _ _ st5 b hb
   exact(I7.pin (b,o) (List.mem_append_right _ (List.mem_append_right _ (gi hb e)))).2.1
  cases f with
  |next=>obtain⟨σ7,H7,I7,n7⟩:=q7;exact again I7 n7
  |cont=>obtain⟨σ7,H7,I7,n7⟩:=q7;exact again I7 n7
  |brk=>obtain⟨σ7,H7,I7,q7⟩:=q7;exact⟨σ7,H7,I7.unpinned,q7⟩
  |ret v=>obtain⟨x7,σ7,H7,I7,r7,q7⟩:=q7;exact⟨x7,σ7,H7,I7.unpinned,r7,q7⟩
end
theorem ya{K:PySem.W.Frag}{a:Addr}{xs:List V}{g:TG}{tb:TS}{D:ip}{σ:St}{H:Hp}(Pv:Nat->St->Hp->Prop)(h0:Pv 0 σ H)(hl:∀i σ H,i<=xs.length->Pv i σ H->aT K H a xs)
  (hs:∀i x σ H,xs[i]?=some x->Pv i σ H->g x σ H fun σ2 H2=>tb {D with nx:=Pv (i+1),ct:=Pv (i+1),bk:=D.nx} σ2 H2) (hd:∀σ H,Pv xs.length σ H->D.nx σ H) :
  ∃W:Nat->Nat->St->Hp->Prop,(∃m,W 0 m σ H)/\∀i m σ H,W i m σ H ->
   ((yG K a).stop i H/\D.nx σ H)\/((yG K a).go i H/\∃N:St->Hp->Prop,(∀σ' H',N σ' H'->∃m',m'<m/\W (i+1) m' σ' H')/\∀x H',(yG K a).yld i H x H'->g x σ H' fun σ2 H2=>tb {D with nx:=N,ct:=N,bk:=D.nx} σ2 H2):=by
 refine⟨fun i m σ H=>m=xs.length-i/\i<=xs.length/\Pv i σ H,⟨xs.length,by simp,Gd _,h0⟩,?_⟩
 rintro i m σ H ⟨rfl,hi,p⟩
 have q:=hl i σ H hi p
 by_cases hlt:i<xs.length
 ·refine .inr ⟨⟨xs,xs[i],q,by simp[hlt]⟩,Pv (i+1),fun σ' H' p'=>⟨xs.length-(i+1),by omega,rfl,hlt,p'⟩,fun x H' y=>?_⟩
  obtain⟨e,y⟩:=y
  subst e
  exact hs i x σ _ (y xs q) p
 ·have e:i=xs.length:=by omega
  subst e
  exact .inl ⟨⟨xs,q,Gc _⟩,hd σ H p⟩
theorem zC{K:PySem.W.Frag}{a:Addr}{xs:List V}{g:TG}{tb:TS}{D:ip}{σ:St}{H:Hp}(Pv:Nat->St->Hp->Prop)(h0:Pv 0 σ H)(hl:∀i σ H,i<=xs.length->Pv i σ H->bq K H a xs)
  (hs:∀i x σ H,xs[i]?=some x->Pv i σ H->g x σ H fun σ2 H2=>tb {D with nx:=Pv (i+1),ct:=Pv (i+1),bk:=D.nx} σ2 H2) (hd:∀σ H,Pv xs.length σ H->D.nx σ H) :
  ∃W:Nat->Nat->St->Hp->Prop,(∃m,W 0 m σ H)/\∀i m σ H,W i m σ H ->
   ((Bp K a).stop i H/\D.nx σ H)\/((Bp K a).go i H/\∃N:St->Hp->Prop,(∀σ' H',N σ' H'->∃m',m'<m/\W (i+1) m' σ' H')/\∀x H',(Bp K a).yld i H x H'->g x σ H' fun σ2 H2=>tb {D with nx:=N,ct:=N,bk:=D.nx} σ2 H2):=by
 refine⟨fun i m σ H=>m=xs.length-i/\i<=xs.length/\Pv i σ H,⟨xs.length,by simp,Gd _,h0⟩,?_⟩
 rintro i m σ H ⟨rfl,hi,p⟩
 have q:=hl i σ H hi p
 by_cases hlt:i<xs.length
 ·refine .inr ⟨⟨xs,xs[i],q,by simp[hlt]⟩,Pv (i+1),fun σ' H' p'=>⟨xs.length-(i+1),by omega,rfl,hlt,p'⟩,fun x H' y=>?_⟩
  obtain⟨e,y⟩:=y
  subst e
  exact hs i x σ _ (y xs q) p
 ·have e:i=xs.length:=by omega
  subst e
  exact .inl ⟨⟨xs,q,Gc _⟩,hd σ H p⟩
theorem vG{lo:Int}{n:Nat}{g:TG}{tb:TS}{D:ip}{σ:St}{H:Hp}(Pv:Nat->St->Hp->Prop)(h0:Pv 0 σ H)
  (hs:∀i σ H,i<n->Pv i σ H->g (.int (lo+i)) σ H fun σ2 H2=>tb {D with nx:=Pv (i+1),ct:=Pv (i+1),bk:=D.nx} σ2 H2) (hd:∀σ H,Pv n σ H->D.nx σ H) :
  ∃W:Nat->Nat->St->Hp->Prop,(∃m,W 0 m σ H)/\∀i m σ H,W i m σ H ->
   ((yL lo n).stop i H/\D.nx σ H)\/((yL lo n).go i H/\∃N:St->Hp->Prop,(∀σ' H',N σ' H'->∃m',m'<m/\W (i+1) m' σ' H')/\∀x H',(yL lo n).yld i H x H'->g x σ H' fun σ2 H2=>tb {D with nx:=N,ct:=N,bk:=D.nx} σ2 H2):=by
 refine⟨fun i m σ H=>m=n-i/\i<=n/\Pv i σ H,⟨n,by simp,Gd _,h0⟩,?_⟩
 rintro i m σ H ⟨rfl,hi,p⟩
 by_cases hlt:i<n
 ·refine .inr ⟨hlt,Pv (i+1),fun σ' H' p'=>⟨n-(i+1),by omega,rfl,hlt,p'⟩,fun x H' y=>?_⟩
  obtain⟨e,y⟩:=y
  subst e y
  exact hs i σ _ hlt p
 ·have e:i=n:=by omega
  subst e
  exact .inl ⟨Gc _,hd σ H p⟩
abbrev R2:=V->V->Hp->VK->Prop
def jN(X:Cx)(f:Value->Value->Sem Value)(r:R2):Prop:=
 ∀(pins:List (Addr×Obj)) (s:Shared) (σ:St) (H:Hp) (x y:V) (v u:Value) (Q:VK),aH X pins σ H s->aY x v->aY y u->r x y H Q ->
  wpAny (model X.prog X.w) X.A (f v u) (EP X pins σ Q) X.xe s
def Cz(X:Cx)(f:Value->Sem Value)(r:V->Hp->VK->Prop):Prop:=
 ∀(pins:List (Addr×Obj)) (s:Shared) (σ:St) (H:Hp) (x:V) (v:Value) (Q:VK),aH X pins σ H s->aY x v->r x H Q ->
  wpAny (model X.prog X.w) X.A (f v) (EP X pins σ Q) X.xe s
def fu(X:Cx)(f:Value)(r:List V->Hp->VK->Prop):Prop:=
 ∀(pins:List (Addr×Obj)) (s:Shared) (σ:St) (H:Hp) (xs:List V) (us:List Value) (Q:VK),aH X pins σ H s->aS xs us->r xs H Q ->
  wpAny (model X.prog X.w) X.A (call f us) (EP X pins σ Q) X.xe s
def AR(r:R2)(ta tb:TE):TE:=fun σ H Q=>ta σ H fun x H1=>tb σ H1 fun y H2=>r x y H2 Q
def D9(r:V->Hp->VK->Prop)(ta:TE):TE:=fun σ H Q=>ta σ H fun x H1=>r x H1 Q
def rI(C:Int->Int->Prop)(g:Int->Int->V):R2:=fun x y H Q=>∃i j,x=.int i/\y=.int j/\C i j/\Q (g i j) H
def yB(g:Int->Int->V):R2:=fun x y H Q=>∃i j,x=.int i/\y=.int j/\Q (g i j) H
def rU(g:Int->V):V->Hp->VK->Prop:=fun x H Q=>∃i,x=.int i/\Q (g i) H
section
variable {X:Cx}{a b c:Expr}{ta tb tc:TE}{pos:Pos}
theorem AL(ha:PE X a ta)(hb:PE X b tb){pins:List (Addr×Obj)}{s:Shared}{σ:St}{H:Hp}{R:V->V->Hp->Prop}(I:aH X pins σ H s)
  (h:ta σ H fun x H1=>tb σ H1 fun y H2=>R x y H2) {Q:Value->Shared->Prop} {f:Value->Value->Sem Value}
  (hf:∀v u s2 x y H2,aH X pins σ H2 s2->aY x v->aY y u->R x y H2->wpAny (model X.prog X.w) X.A (f v u) Q X.xe s2) :
  wpAny (model X.prog X.w) X.A (eval a X.env) (fun v s₁=>wpAny (model X.prog X.w) X.A (eval b X.env) (fun u s₂=>wpAny (model X.prog X.w) X.A (f v u) Q X.xe s₂) X.xe s₁) X.xe s:=by
 refine bx (ha pins s σ H _ I h) fun v s1 ⟨x,H1,I1,r1,q1⟩=>?_
 refine bx (hb pins s1 σ H1 _ I1 q1) fun u s2 ⟨y,H2,I2,r2,q2⟩=>?_
 exact hf v u s2 x y H2 I2 r1 r2 q2
theorem am{op:Operator}{r:R2}(ho:jN X (binaryOp op) r)(ha:PE X a ta)(hb:PE X b tb):PE X (.BinOp a op b pos) (AR r ta tb):=by
 intro pins s σ H Q I h
 exact wpAny_BinOp (AL ha hb I h fun v u s2 x y H2 I2 rx ry q=>ho pins s2 σ H2 x y v u Q I2 rx ry q)
theorem rK{op:UnaryOp}{r:V->Hp->VK->Prop}(ho:Cz X (unaryOp op) r)(ha:PE X a ta):PE X (.UnaryOp op a pos) (D9 r ta):=by
 intro pins s σ H Q I h
 exact UnaryOp_ (bx (ha pins s σ H _ I h) fun v s1 ⟨x,H1,I1,r1,q1⟩=>ho pins s1 σ H1 x v Q I1 r1 q1)
theorem Ck{f:Value->Value->Sem Value}{C:Int->Int->Prop}{g:Int->Int->Int}
  (rule:∀(i j:Int) (t u:Tok) (s:Shared) (Q:Value->Shared->Prop) (E:Value->Shared->Prop),C i j->Q (.int (g i j) s.toks) {s with toks:=s.toks+1}->wpAny (model X.prog X.w) X.A (f (.int i t) (.int j u)) Q E s) :
  jN X f (rI C fun i j=>.int (g i j)):=by
 intro pins s σ H x y v u Q I rx ry h
 obtain⟨i,j,rfl,rfl,hc,q⟩:=h
 obtain⟨t,rfl⟩:=rx
 obtain⟨t',rfl⟩:=ry
 exact rule i j t t' s _ _ hc ⟨.int (g i j),H,I.tok _,⟨_,rfl⟩,q⟩
theorem B5{f:Value->Value->Sem Value}{g:Int->Int->Int}
  (rule:∀(i j:Int) (t u:Tok) (s:Shared) (Q:Value->Shared->Prop) (E:Value->Shared->Prop),Q (.int (g i j) s.toks) {s with toks:=s.toks+1}->wpAny (model X.prog X.w) X.A (f (.int i t) (.int j u)) Q E s) :
  jN X f (yB fun i j=>.int (g i j)):=by
 intro pins s σ H x y v u Q I rx ry h
 obtain⟨i,j,rfl,rfl,q⟩:=h
 obtain⟨t,rfl⟩:=rx
 obtain⟨t',rfl⟩:=ry
 exact rule i j t t' s _ _ ⟨.int (g i j),H,I.tok _,⟨_,rfl⟩,q⟩
theorem zA{f:Value->Value->Sem Value}{g:Int->Int->Bool}
  (rule:∀(i j:Int) (t u:Tok) (s:Shared) (Q:Value->Shared->Prop) (E:Value->Shared->Prop),Q (.bool (g i j)) s->wpAny (model X.prog X.w) X.A (f (.int i t) (.int j u)) Q E s) :
  jN X f (yB fun i j=>.bl (g i j)):=by
 intro pins s σ H x y v u Q I rx ry h
 obtain⟨i,j,rfl,rfl,q⟩:=h
 obtain⟨t,rfl⟩:=rx
 obtain⟨t',rfl⟩:=ry
 exact rule i j t t' s _ _ ⟨.bl (g i j),H,I,rfl,q⟩
def BJ(i j:Int):Prop:=0<=j/\j<=1000000/\i.natAbs<2 ^ 64
def xP(i j:Int):Prop:=(-(2 ^ 64)<i/\i<2 ^ 64)\/(-(2 ^ 64)<j/\j<2 ^ 64)
theorem xP.ok{i j:Int}(h:xP i j):IntMulOk i j:=by
 rcases h with⟨h1,h2⟩ | ⟨h1,h2⟩
 ·exact .of_left (intBits_le_64 h1 h2)
 ·exact .of_right (intBits_le_64 h1 h2)
theorem bt:jN X (binaryOp .Add) (yB fun i j=>.int (i+j)):=B5 fun _ _ _ _ _ _ _ q=>add_int q
theorem kP:jN X (binaryOp .Sub) (yB fun i j=>.int (i-j)):=B5 fun _ _ _ _ _ _ _ q=>sub_int q
theorem dD:jN X (binaryOp .Mult) (rI xP fun i j=>.int (i*j)):=Ck fun _ _ _ _ _ _ _ hc q=>mul_int q hc.ok
theorem aQ:jN X (binaryOp .Mod) (rI (fun _ j=>0<j) fun i j=>.int (i%j)):=Ck fun i j _ _ _ _ _ hc q=>by
 have h1:(0:Int)<j:=hc
 exact mod_int' (by omega) (by rw[Int.fmod_eq_emod_of_nonneg i (by omega)];exact q)
theorem xF:jN X (binaryOp .Pow) (rI BJ fun i j=>.int (i ^ j.toNat)):=Ck fun _ _ _ _ _ _ _ hc q=>pow_int_small hc.1 hc.2.1 hc.2.2 q
theorem FJ{f:Value->Sem Value}{g:Int->Int}
  (rule:∀(i:Int) (t:Tok) (s:Shared) (Q:Value->Shared->Prop) (E:Value->Shared->Prop),Q (.int (g i) s.toks) {s with toks:=s.toks+1}->wpAny (model X.prog X.w) X.A (f (.int i t)) Q E s) :
  Cz X f (rU fun i=>.int (g i)):=by
 intro pins s σ H x v Q I rx h
 obtain⟨i,rfl,q⟩:=h
 obtain⟨t,rfl⟩:=rx
 exact rule i t s _ _ ⟨.int (g i),H,I.tok _,⟨_,rfl⟩,q⟩
theorem mQ:Cz X (unaryOp .USub) (rU fun i=>.int (-i)):=FJ fun _ _ _ _ _ q=>neg_int q
end
def wc:V->V->Bool
 | .non,.non=>true | .non,.int _=>true | .int _,.non=>true | .non,.bl _=>true | .bl _,.non=>true | .non,.str _=>true | .str _,.non=>true
 | .int _,.int _=>true | .bl _,.bl _=>true | .str _,.str _=>true | .byt _,.byt _=>true
 | .int _,.str _=>true | .str _,.int _=>true | .bl _,.str _=>true | .str _,.bl _=>true
 |_,_=>false
def D0:R2:=fun x y H Q=>wc x y=true/\Q (.bl (decide (x=y))) H
def DX:R2:=fun x y H Q=>wc x y=true/\Q (.bl (!decide (x=y))) H
theorem vg{i j:Int}:decide (V.int i=V.int j)=(i==j):=by
 rw[Bool.eq_iff_iff]
 simp
theorem xC{i j:Bool}:decide (V.bl i=V.bl j)=(i==j):=by
 rw[Bool.eq_iff_iff]
 simp
theorem u9{i j:Str}:decide (V.str i=V.str j)=(i==j):=by
 rw[Bool.eq_iff_iff]
 simp
theorem uN{i j:Array UInt8}:decide (V.byt i=V.byt j)=(i.toList==j.toList):=by
 rw[Bool.eq_iff_iff]
 cases i
 cases j
 simp
section
variable {X:Cx}{a b c:Expr}{ta tb tc:TE}{pos:Pos}
theorem ba{pins:List (Addr×Obj)}{σ:St}{H:Hp}{s:Shared}{Q:VK}{k k':Bool}(I:aH X pins σ H s)(q:Q (.bl k) H)(e:k=k'):EP X pins σ Q (.bool k') s:=by
 subst e
 exact⟨.bl k,H,I,rfl,q⟩
theorem dB:jN X (compareOp .Eq) D0:=by
 intro pins s σ H x y v u Q I rx ry h
 obtain⟨hs,q⟩:=h
 cases x with
 |non=>
  cases rx
  cases y with
  |non=>cases ry;exact PySem.EqNone.eq_none_none (ba I q (by simp))
  |bl j=>cases ry;exact PySem.EqNone.eq_none_bool (ba I q (by simp))
  |int j=>obtain⟨t',rfl⟩:=ry;exact PySem.EqNone.eq_none_int (ba I q (by simp))
  |str j=>obtain⟨t',rfl⟩:=ry;exact PySem.EqNone.eq_none_str (ba I q (by simp))
  |_=>exact absurd (show false=true from hs) Gf
 |bl i=>
  cases rx
  cases y with
  |non=>cases ry;exact PySem.EqNone.eq_bool_none (ba I q (by simp))
  |bl j=>cases ry;exact eq_bool (ba I q xC)
  |str j=>obtain⟨t',rfl⟩:=ry;exact PySem.EqMixed.eq_bool_str (ba I q (by simp))
  |_=>exact absurd (show false=true from hs) Gf
 |int i=>
  obtain⟨t,rfl⟩:=rx
  cases y with
  |non=>cases ry;exact PySem.EqNone.eq_int_none (ba I q (by simp))
  |int j=>obtain⟨t',rfl⟩:=ry;exact eq_int (ba I q vg)
  |str j=>obtain⟨t',rfl⟩:=ry;exact PySem.EqMixed.eq_int_str (ba I q (by simp))
  |_=>exact absurd (show false=true from hs) Gf
 |str i=>
  obtain⟨t,rfl⟩:=rx
  cases y with
  |non=>cases ry;exact PySem.EqNone.eq_str_none (ba I q (by simp))
  |bl j=>cases ry;exact PySem.EqMixed.eq_str_bool (ba I q (by simp))
  |int j=>obtain⟨t',rfl⟩:=ry;exact PySem.EqMixed.eq_str_int (ba I q (by simp))
  |str j=>obtain⟨t',rfl⟩:=ry;exact eq_str (ba I q u9)
  |_=>exact absurd (show false=true from hs) Gf
 |byt i=>
  obtain⟨t,rfl⟩:=rx
  cases y with
  |byt j=>obtain⟨t',rfl⟩:=ry;exact PySem.W.eq_bytes (ba I q uN)
  |_=>exact absurd (show false=true from hs) Gf
 |_=>cases y<;>exact absurd (show false=true from hs) Gf
theorem uO:jN X (compareOp .NotEq) DX:=by
 intro pins s σ H x y v u Q I rx ry h
 obtain⟨hs,q⟩:=h
 cases x with
 |non=>
  cases rx
  cases y with
  |non=>cases ry;exact PySem.EqNone.ne_none_none (ba I q (by simp))
  |bl j=>cases ry;exact PySem.EqNone.ne_none_bool (ba I q (by simp))
  |int j=>obtain⟨t',rfl⟩:=ry;exact PySem.EqNone.ne_none_int (ba I q (by simp))
  |str j=>obtain⟨t',rfl⟩:=ry;exact PySem.EqNone.ne_none_str (ba I q (by simp))
  |_=>exact absurd (show false=true from hs) Gf
 |bl i=>
  cases rx
  cases y with
  |non=>cases ry;exact PySem.EqNone.ne_bool_none (ba I q (by simp))
  |bl j=>cases ry;exact ne_bool (ba I q (congrArg not xC))
  |str j=>obtain⟨t',rfl⟩:=ry;exact PySem.EqMixed.ne_bool_str (ba I q (by simp))
  |_=>exact absurd (show false=true from hs) Gf
 |int i=>
  obtain⟨t,rfl⟩:=rx
  cases y with
  |non=>cases ry;exact PySem.EqNone.ne_int_none (ba I q (by simp))
  |int j=>obtain⟨t',rfl⟩:=ry;exact ne_int (ba I q (congrArg not vg))
  |str j=>obtain⟨t',rfl⟩:=ry;exact PySem.EqMixed.ne_int_str (ba I q (by simp))
  |_=>exact absurd (show false=true from hs) Gf
 |str i=>
  obtain⟨t,rfl⟩:=rx
  cases y with
  |non=>cases ry;exact PySem.EqNone.ne_str_none (ba I q (by simp))
  |bl j=>cases ry;exact PySem.EqMixed.ne_str_bool (ba I q (by simp))
  |int j=>obtain⟨t',rfl⟩:=ry;exact PySem.EqMixed.ne_str_int (ba I q (by simp))
  |str j=>obtain⟨t',rfl⟩:=ry;exact ne_str (ba I q (congrArg not u9))
  |_=>exact absurd (show false=true from hs) Gf
 |byt i=>
  obtain⟨t,rfl⟩:=rx
  cases y with
  |byt j=>obtain⟨t',rfl⟩:=ry;exact PySem.W.ne_bytes (ba I q (congrArg not uN))
  |_=>exact absurd (show false=true from hs) Gf
 |_=>cases y<;>exact absurd (show false=true from hs) Gf
theorem nM:jN X (compareOp .Lt) (yB fun i j=>.bl (decide (i<j))):=zA fun _ _ _ _ _ _ _ q=>lt_int q
theorem nQ:jN X (compareOp .LtE) (yB fun i j=>.bl (decide (i<=j))):=zA fun _ _ _ _ _ _ _ q=>le_int q
theorem hJ:jN X (compareOp .Gt) (yB fun i j=>.bl (decide (j<i))):=zA fun _ _ _ _ _ _ _ q=>gt_int q
theorem BD:jN X (compareOp .GtE) (yB fun i j=>.bl (decide (j<=i))):=zA fun _ _ _ _ _ _ _ q=>ge_int q
theorem wy:jN X (compareOp .In) (fun x y H Q=>∃i j,x=.str i/\y=.str j/\Q (.bl (!(Builtin.Str.occurrences j i 0 j.length 1).isEmpty)) H):=by
 intro pins s σ H x y v u Q I rx ry h
 obtain⟨i,j,rfl,rfl,q⟩:=h
 obtain⟨t,rfl⟩:=rx
 obtain⟨t',rfl⟩:=ry
 exact in_str (ba I q rfl)
theorem uM:jN X (compareOp .IsNot) (fun x y H Q=>y=.non/\Q (.bl (!decide (x=.non))) H):=by
 intro pins s σ H x y v u Q I rx ry h
 obtain⟨rfl,q⟩:=h
 cases ry
 refine isnot_none_gen (ba I q ?_)
 cases x<;>first
  | (cases rx;rfl)
  | (obtain⟨t,rfl⟩:=rx;rfl)
theorem qy:jN X (compareOp .NotIn) (fun x y H Q=>∃i j,x=.str i/\y=.str j/\Q (.bl (!(!(Builtin.Str.occurrences j i 0 j.length 1).isEmpty))) H):=by
 intro pins s σ H x y v u Q I rx ry h
 obtain⟨i,j,rfl,rfl,q⟩:=h
 obtain⟨t,rfl⟩:=rx
 obtain⟨t',rfl⟩:=ry
 exact notIn_str (ba I q rfl)
theorem aK(b:Expr){op:CmpOp}(h:op≠.In:=by decide)(h2:op≠.NotIn:=by decide):behindInMarks op b=false:=by
 have e1:(op==CmpOp.In)=false:=by cases op<;>first | rfl | exact absurd rfl h
 have e2:(op==CmpOp.NotIn)=false:=by cases op<;>first | rfl | exact absurd rfl h2
 cases b<;>simp[behindInMarks,e1,e2]
theorem qp{op:CmpOp}{r:R2}(ho:jN X (compareOp op) r)(ha:PE X a ta)(hb:PE X b tb)(hm:behindInMarks op b=false):PE X (.Compare a [op] [b] pos) (AR r ta tb):=by
 intro pins s σ H Q I h
 exact wpAny_Compare1 (AL ha hb I h fun v u s2 x y H2 I2 rx ry q=>ho pins s2 σ H2 x y v u Q I2 rx ry q) hm
def xV(t:TE):TT:=fun σ H Q=>t σ H fun x H'=>∃k,x=.bl k/\Q k H'
theorem aB{op:CmpOp}{r:R2}(ho:jN X (compareOp op) r)(ha:PE X a ta)(hb:PE X b tb)(hm:behindInMarks op b=false):PT X (.Compare a [op] [b] pos) (xV (AR r ta tb)):=by
 intro pins s σ H Q I h
 refine wpAny_isTrue_Compare1 (bx (ha pins s σ H _ I h) fun v s1 ⟨x,H1,I1,r1,q1⟩=>bx (hb pins s1 σ H1 _ I1 q1) fun u s2 ⟨y,H2,I2,r2,q2⟩=>
  bx (ho pins s2 σ H2 x y v u _ I2 r1 r2 q2) fun c s3 ⟨z,H3,I3,r3,k,e,q3⟩=>?_) hm
 subst e
 cases r3
 exact wpAny_truthy_bool ⟨H3,I3,q3⟩
def xZ(r r':R2)(ta tb tc:TE):TE:=fun σ H Q=>ta σ H fun x H1=>tb σ H1 fun y H2=>r x y H2 fun z H3=>∃k,z=.bl k /\
 (if k=true then tc σ H3 fun w' H4=>r' y w' H4 Q else Q (.bl false) H3)
theorem rN{op op':CmpOp}{r r':R2}(ho:jN X (compareOp op) r)(ho':jN X (compareOp op') r')(ha:PE X a ta)(hb:PE X b tb)(hc:PE X c tc)
  (hm:lastMarks [op,op'] [b,c]=false:=by with_unfolding_all rfl):PE X (.Compare a [op,op'] [b,c] pos) (xZ r r' ta tb tc):=by
 intro pins s σ H Q I h
 refine Compare_chain (bx (ha pins s σ H _ I h) fun v s1 ⟨x,H1,I1,r1,q1⟩=>chain_link (bx (hb pins s1 σ H1 _ I1 q1) fun u s2 ⟨y,H2,I2,r2,q2⟩=>
  bx (ho pins s2 σ H2 x y v u _ I2 r1 r2 q2) fun d s3 ⟨z,H3,I3,r3,k,e,q3⟩=>?_)) hm
 subst e
 cases r3
 refine wpAny_truthy_bool ?_
 cases k with
 |false=>exact ite_ff ⟨.bl false,H3,I3,rfl,q3⟩
 |true=>exact ite_tt (chain_last (bx (hc pins s3 σ H3 _ I3 q3) fun w' s4 ⟨z',H4,I4,r4,q4⟩=>ho' pins s4 σ H4 y z' u w' Q I4 r2 r4 q4))
theorem k_:(sizeLine:Nat)<2 ^ 63:=by rw[sizeLine_eq];decide
theorem jt:jN X (binaryOp .Add) (fun x y H Q=>∃i j,x=.str i/\y=.str j/\i.length+j.length<=sizeLine/\Q (.str (i++j)) H):=by
 intro pins s σ H x y v u Q I rx ry h
 obtain⟨i,j,rfl,rfl,hz,q⟩:=h
 obtain⟨t,rfl⟩:=rx
 obtain⟨t',rfl⟩:=ry
 exact add_str (fun t' tk=>⟨.str (i++j),H,I.tok _,⟨_,rfl⟩,q⟩) hz
theorem oQ{x:V}{us:List Value}(r:aS [x] us):∃u,us=[u]/\aY x u:=by
 cases r with
 |cons r1 r2=>cases r2;exact⟨_,rfl,r1⟩
theorem gX:fu X (.type "str") (fun xs H Q=>∃i,xs=[.int i]/\i.natAbs.log2<1920/\Q (.str (toString i)) H):=by
 intro pins s σ H xs us Q I r h
 obtain⟨i,rfl,hz,q⟩:=h
 obtain⟨u,rfl,t,rfl⟩:=oQ r
 exact PySem.P.str_of_int hz ⟨.str _,H,I.tok _,⟨_,rfl⟩,q⟩
end
structure sK(h:Heap)(x dx C:Addr)(mA:Str->Option Value):Prop where
 obj:h.get? x=some (PySem.W.instObj C dx)
 ns:h.Ns1 dx mA
 ne:dx≠x
theorem vJ{h:Heap}{dx:Addr}{mA:Str->Option Value}(n:h.Ns1 dx mA):∃od,h.get? dx=some od/\∀name,PySem.W.lookIn name od=some (mA name):=by
 obtain⟨o,es,ep,ho,hd,hk,_,hm⟩:=n
 refine⟨o,ho,fun name=>?_⟩
 have e:=hm name
 unfold nsFind findBy at e
 rw[<- Array.find?_toList]at e
 unfold PySem.W.lookIn
 rw[hd]
 dsimp only
 split
 ·rename_i y q
  rw[q]at e
  exact congrArg some e
 ·rename_i q
  rw[q]at e
  have a:es.toList.any (·.refKey)=false:=by
   rw[List.any_eq_false]
   intro y hy
   obtain⟨z,t,hkey⟩:=hk y (Array.mem_toList_iff.mp hy)
   simp[DictEntry.refKey,hkey]
  have a':¬ es.toList.any (·.refKey)=true:=by rw[a];exact Gf
  rw[if_neg a']
  exact congrArg some e
theorem sK.look{h:Heap}{x dx C:Addr}{mA:Str->Option Value}(I:sK h x dx C mA):∃od,PySem.W.InstAt h x (PySem.W.instObj C dx) C (some od)/\∀name,PySem.W.lookIn name od=some (mA name):=
 let ⟨od,ho,hl⟩:=vJ I.ns
 ⟨od,⟨I.obj,rfl,rfl,ho⟩,hl⟩
section
variable {prog:Program}{w:World}{A:Around}{E:Value->Shared->Prop}{s:Shared}{K:PySem.W.Frag}{x dx C f:Addr}{mA:Str->Option Value}{name:Str}{v:Value}
theorem y7{expr:Bool}{Q:Value->Shared->Prop}(X:K.In s.heap)(I:sK s.heap x dx C mA)(hg:PySem.W.plainGet K C name=true)(hh:PySem.W.hasDictIn K C=true)
  (ha:PySem.W.findIn K (.ref C) name=some none) (hv:mA name=some v) (hv':PySem.W.handedIn v=true) (h:Q v {s with toks:=s.toks+1}) :
  wpAny (model prog w) A (getAttr (.ref x) name expr) Q E s:=by
 obtain⟨od,J,hl⟩:=I.look
 exact PySem.W.get_value X J (PySem.W.plainGet_of hg).1 (PySem.W.findObj_own hh ha rfl (by rw[hl,hv])) hv' h
theorem yw{pl:Sem Bool}{Q:Value×List Value->Shared->Prop}(X:K.In s.heap)(I:sK s.heap x dx C mA)(hg:PySem.W.plainGet K C name=true)
  (hf:PySem.W.findIn K (.ref C) name=some (some (.ref f))) (ht:PySem.W.isFn K (.ref f)=true) (hv:mA name=none) (h:Q (.ref f,[.ref x]) s) :
  wpAny (model prog w) A (getMethod (.ref x) name pl) Q E s:=by
 obtain⟨od,J,hl⟩:=I.look
 exact PySem.W.method_fn X J (PySem.W.plainGet_of hg).1 (PySem.W.plainGet_of hg).2 hf (beq_iff_eq.mp ht) (by show(PySem.W.lookIn name od).map (·.isSome)=some false;rw[hl,hv];rfl) h
theorem zp{ns:List Str}{Q:Unit->Shared->Prop}(X:K.In s.heap)(I:sK s.heap x dx C mA)
  (hs:PySem.W.findIn K (.ref C) "__setattr__"=some (some (.builtin "object.__setattr__"))) (hp:PySem.W.plainOver K C=true) (ht:PySem.W.takerIn K C name=some none) (hh:PySem.W.hasDictIn K C=true)
  (hw:PySem.Within mA ns) (hsz:ns.length<=sizeLine)
  (h:∀h',sK h' x dx C (fun y=>if y=name then some v else mA y)->Heap.SameBut dx s.heap h'->Q () {s with heap:=h',toks:=s.toks+2}) :
  wpAny (model prog w) A (setAttr (.ref x) name v) Q E s:=by
 obtain⟨od,J,hl⟩:=I.look
 refine PySem.W.set_plain X J hs (PySem.W.osa_open (s:={s with toks:=s.toks+1}) (r:=none) X J hp ht fun b=>?_)
 obtain⟨cd,hc,hd'⟩:=PySem.W.any_some hh
 have hx:s.heap.get? x=some ⟨.ref C,some dx,.plain,#[]⟩:=I.obj
 refine wpAny_bind (wpAny_pure (wpAny_bind (wpAny_bind (wpAny_loadPart hx (wpAny_bind (PySem.W.Looks.here (s:={s with toks:=s.toks+1}) (PySem.W.looks_clsIn X hc) ?_))))))
 rw[hd']
 refine wpAny_pure (a:=some dx) (wpAny_bind (wpAny_pure (wpAny_bind ?_)))
 refine wpAny_nsSet1 (s:={s with toks:=s.toks+1}) I.ns fun h' hn2 hs2=>?_
 obtain⟨oD,esD,epD,hoD,hdD,hcD⟩:=hn2.count (PySem.Within.cons name v hw)
 refine wpAny_bind (wpAny_lookBehind hoD (by rw[hdD];exact pastItsLine_dict (Gn hcD (by rw[F2];omega))) ?_)
 exact wpAny_pure (h _ ⟨(hs2.2 _ (Ne.symm I.ne)).trans I.obj,hn2,I.ne⟩ hs2)
theorem xx{R:Result->Shared->Prop}{vs:List Value}{kw:List (Str×Value)}(X:K.In s.heap)(hm:PySem.W.makesIn K C=true)
  (hi:PySem.W.findIn K (.ref C) "__init__"=some (some (.ref f))) (hf:PySem.W.typeIn K (.ref f)=some (.type "function"))
  (h:codeAny (model prog w) (A.under (.builtin "type.__call__" ⟨.ref C::vs,kw⟩)) (.call (.ref f) ⟨.ref (s.heap.objs.size+1)::vs,kw⟩) (PySem.W.InitBack (s.heap.objs.size+1) R)
   {s with heap:=(s.heap.push PySem.W.emptyDict).push (PySem.W.instObj C s.heap.objs.size)}) :
  codeAny (model prog w) A (.call (.ref C) ⟨vs,kw⟩) R s:=by
 obtain⟨hh,g,d,t,os⟩:=s
 exact PySem.W.make_core (PySem.W.makes_of X hm) (PySem.W.looks_findIn X hi) (fun self=>PySem.W.bind_fn X self hf) (.inl rfl) h
end
def cg(f:Str)(v:V):List (Str×V)->List (Str×V)
 | []=>[(f,v)]
 | (g,x)::r=>if g=f then(g,v)::r else(g,x)::cg f v r
theorem lY(f g:Str)(v:V):∀fs:List (Str×V),(cg f v fs).lookup g=if g=f then some v else fs.lookup g
 | []=>by
  show List.lookup g [(f,v)]=_
  by_cases h:g=f
  ·have hb:(g==f)=true:=beq_iff_eq.mpr h
   simp only[List.lookup,hb,if_pos h]
  ·have hb:(g==f)=false:=beq_eq_false_iff_ne.mpr h
   simp only[List.lookup,hb,if_neg h]
 | (k,x)::r=>by
  have ih:=lY f g v r
  rw[show cg f v ((k,x)::r)=(if k=f then(k,v)::r else(k,x)::cg f v r) from rfl]
  by_cases hk:k=f
  ·rw[if_pos hk]
   by_cases h:g=k
   ·have hb:(g==k)=true:=beq_iff_eq.mpr h
    simp only[List.lookup,hb,if_pos (h.trans hk)]
   ·have hb:(g==k)=false:=beq_eq_false_iff_ne.mpr h
    simp only[List.lookup,hb,if_neg (fun e:g=f=>h (e.trans hk.symm))]
  ·rw[if_neg hk]
   by_cases h:g=k
   ·have hb:(g==k)=true:=beq_iff_eq.mpr h
    simp only[List.lookup,hb,if_neg (fun e:g=f=>hk (h.symm.trans e))]
   ·have hb:(g==k)=false:=beq_eq_false_iff_ne.mpr h
    simp only[List.lookup,hb]
    exact ih
theorem kH(f:Str)(v:V):∀fs:List (Str×V),f∈(cg f v fs).map (·.1)/\∀g,g∈fs.map (·.1)->g∈(cg f v fs).map (·.1)
 | []=>⟨by simp[cg],fun g h=>by simp at h⟩
 | (k,x)::r=>by
  obtain⟨i1,i2⟩:=kH f v r
  rw[show cg f v ((k,x)::r)=(if k=f then(k,v)::r else(k,x)::cg f v r) from rfl]
  by_cases hk:k=f
  ·rw[if_pos hk]
   subst hk
   exact⟨by simp,fun g h=>by simpa using h⟩
  ·rw[if_neg hk]
   refine⟨?_,fun g h=>?_⟩
   ·rw[Gk]
    exact F7 _ i1
   ·rw[Gk]at h ⊢
    rcases F6.mp h with e | e
    ·exact F6.mpr (.inl e)
    ·exact F7 _ (i2 g e)
theorem ck(f:Str)(v:V):∀fs:List (Str×V),(cg f v fs).length<=fs.length+1
 | []=>by simp[cg]
 | (k,x)::r=>by
  have ih:=ck f v r
  rw[show cg f v ((k,x)::r)=(if k=f then(k,v)::r else(k,x)::cg f v r) from rfl]
  by_cases hk:k=f
  ·rw[if_pos hk,F2,F2];omega
  ·rw[if_neg hk,F2,F2];omega
theorem iw.some_of{v:V}{o:Option Value}(r:iw (some v) o):∃u,o=some u/\aY v u:=by
 cases o with
 |none=>exact(show False from r).elim
 |some u=>exact⟨u,rfl,r⟩
theorem iw.none_of{o:Option Value}(r:iw none o):o=none:=by
 cases o with
 |none=>rfl
 |some u=>exact(show False from r).elim
theorem wv{v:V}{u:Value}(r:aY v u):PySem.W.handedIn u=true:=by
 cases v with
 |non=>cases(show u=Value.none from r);rfl
 |bl b=>cases(show u=Value.bool b from r);rfl
 |int i=>obtain⟨t,e⟩:=(show ∃t,u=Value.int i t from r);cases e;rfl
 |str x=>obtain⟨t,e⟩:=(show ∃t,u=Value.str x t from r);cases e;rfl
 |byt b=>obtain⟨t,e⟩:=(show ∃t,u=Value.bytes b t from r);cases e;rfl
 |flt b=>obtain⟨t,e⟩:=(show ∃t,u=Value.float b t from r);cases e;rfl
 |ref a=>cases(show u=Value.ref a from r);rfl
 |ty n=>cases(show u=Value.type n from r);rfl
section
variable {P:Program}{w:World}{H H':Hp}{h h':Heap}{a C dx:Addr}{fs fs':List (Str×V)}
theorem mf(hok:i5 P w H h)(e:H a=some (.ins C dx fs)):∃mA,sK h a dx C mA/\(∀f,iw (fs.lookup f) (mA f))/\PySem.Within mA (fs.map (·.1))/\fs.length<=1000/\H dx=some (.own a):=by
 obtain⟨d,z,ne,ob,mA,n,r,q⟩:=(show bC P w H h a (.ins C dx fs) from hok a _ e)
 exact⟨mA,⟨ob,n,ne⟩,r,q,z,d⟩
end
structure oj(K:PySem.W.Frag)(C:Addr):Prop where
 pg:PySem.W.plainGet K C Str.empty=true
 hd:PySem.W.hasDictIn K C=true
 po:PySem.W.plainOver K C=true
 sa:PySem.W.findIn K (.ref C) "__setattr__"=some (some (.builtin "object.__setattr__"))
theorem oj.get{K:PySem.W.Frag}{C:Addr}(c:oj K C)(f:Str):PySem.W.plainGet K C f=true:=c.pg
def aE(K:PySem.W.Frag)(C:Addr)(f:Str):Prop:=PySem.W.findIn K (.ref C) f=some none
theorem aE.taker{K:PySem.W.Frag}{C:Addr}{f:Str}(n:aE K C f):PySem.W.takerIn K C f=some none:=by
 unfold PySem.W.takerIn
 rw[show PySem.W.findIn K (.ref C) f=some none from n]
 rfl
structure FN(K:PySem.W.Frag)(C:Addr)(f:Str)(v:V)(u:Value):Prop where
 at_:PySem.W.findIn K (.ref C) f=some (some u)
 rel:aY v u
 get:PySem.W.specialIn K u "__get__"=some none
 cp:PySem.W.copiedNames.contains f=false
structure nC(K:PySem.W.Frag)(C:Addr)(m:Str)(f:Addr):Prop where
 at_:PySem.W.findIn K (.ref C) m=some (some (.ref f))
 fn:PySem.W.isFn K (.ref f)=true
 kp:PySem.W.keepIn K (.ref f)=true
section
variable {X:Cx}{pins:List (Addr×Obj)}{σ:St}{H:Hp}{s:Shared}{a C dx:Addr}{fs:List (Str×V)}{f:Str}{v:V}{A:Around}{E:Value->Shared->Prop}
theorem sZ{b:Bool}{Q:Value->Shared->Prop}(I:aH X pins σ H s)(e:H a=some (.ins C dx fs))(c:oj X.K C)(n:aE X.K C f)(l:fs.lookup f=some v)
  (h:∀u s',aH X pins σ H s'->aY v u->Q u s'):wpAny (model X.prog X.w) A (getAttr (.ref a) f b) Q E s:=by
 obtain⟨mA,O,r,_,_,_⟩:=mf I.hok e
 obtain⟨u,hu,ru⟩:=iw.some_of (v:=v) (o:=mA f) (by rw[<- l];exact r f)
 exact y7 I.kIn O (c.get f) c.hd n hu (wv ru) (h u _ (I.tok _) ru)
theorem fh{m:Str}{g:Addr}{pl:Sem Bool}{Q:Value×List Value->Shared->Prop}(I:aH X pins σ H s)(e:H a=some (.ins C dx fs))(c:oj X.K C)(k:nC X.K C m g)(l:fs.lookup m=none)
  (h:Q (.ref g,[.ref a]) s):wpAny (model X.prog X.w) A (getMethod (.ref a) m pl) Q E s:=by
 obtain⟨mA,O,r,_,_,_⟩:=mf I.hok e
 have hn:mA m=none:=iw.none_of (by rw[<- l];exact r m)
 exact yw I.kIn O (c.get m) k.at_ k.fn hn h
theorem tU{y:V}{u:Value}{Q:Unit->Shared->Prop}(I:aH X pins σ H s)(e:H a=some (.ins C dx fs))(c:oj X.K C)(n:aE X.K C f)(hl:fs.length<1000)(ry:aY y u)
  (h:∀s',aH X pins σ (ap H a (.ins C dx (cg f y fs))) s'->Q () s'):wpAny (model X.prog X.w) A (setAttr (.ref a) f u) Q E s:=by
 obtain⟨mA,O,r,wi,_,ho⟩:=mf I.hok e
 have hz:(fs.map (·.1)).length<=sizeLine:=by rw[FS,sizeLine_eq];omega
 refine zp I.kIn O c.sa c.po n.taker c.hd wi hz fun h' O' sb=>h _ ?_
 have hd:∃o,h'.get? dx=some o:=let ⟨o,_,_,e',_⟩:=O'.ns;⟨o,e'⟩
 refine I.write (x:=a) (e:=dx) (by rw[e];exact True.intro) (.inr ho) (fun b q hb z=>(sb.2 b hb).trans z) hd ?_
 refine⟨by rw[aj O.ne];exact ho,?_,O.ne,O'.obj,_,O'.ns,fun g=>?_,fun g hg=>?_⟩
 ·have:=ck f y fs;omega
 ·show iw ((cg f y fs).lookup g) (if g=f then some u else mA g)
  rw[lY]
  by_cases q:g=f
  ·rw[if_pos q,if_pos q];exact ry
  ·rw[if_neg q,if_neg q];exact r g
 ·by_cases q:g=f
  ·rw[q];exact(kH f y fs).1
  ·refine(kH f y fs).2 g (wi g fun z=>hg ?_)
   show(if g=f then some u else mA g)=none
   rw[if_neg q];exact z
theorem aH.made(I:aH X pins σ H s):aH X pins σ (ap (ap H s.heap.objs.size (.own (s.heap.objs.size+1))) (s.heap.objs.size+1) (.ins C s.heap.objs.size []))
  {s with heap:=(s.heap.push PySem.W.emptyDict).push (PySem.W.instObj C s.heap.objs.size)}:=by
 have e1:(s.heap.push PySem.W.emptyDict).get? s.heap.objs.size=some PySem.W.emptyDict:=FX s.heap rfl
 have e2:((s.heap.push PySem.W.emptyDict).push (PySem.W.instObj C s.heap.objs.size)).get? (s.heap.objs.size+1)=some (PySem.W.instObj C s.heap.objs.size):=by
  have:=FX (s.heap.push PySem.W.emptyDict) (o:=PySem.W.instObj C s.heap.objs.size) rfl
  rwa [Heap.size_push]at this
 have e3:(s.heap.push PySem.W.emptyDict).Ns s.heap.objs.size (fun _=>none):=⟨PySem.W.emptyDict,#[],_,e1,rfl,(fun e he=>absurd he (by simp)),fun _=>rfl⟩
 have I1:=I.laid (a:=s.heap.objs.size) (o:=.own (s.heap.objs.size+1)) (h':=s.heap.push PySem.W.emptyDict) (t':=s.toks) (fun b u q=>FR _ q) (Gc _) ⟨_,e1⟩
 refine I1.laid (a:=s.heap.objs.size+1) (o:=.ins C s.heap.objs.size []) (t':=s.toks) (fun b u q=>FR _ q) (Nat.le_of_eq (Heap.size_push _ _)) ?_
 have ne:s.heap.objs.size≠s.heap.objs.size+1:=F_ (Gp _)
 refine⟨by rw[aj ne,ac],Gd _,ne,e2,fun _=>none,(Heap.Ns1.of_empty e3).at fun o q=>FR _ q,fun _=>True.intro,fun y hy=>absurd rfl hy⟩
theorem zx{prog:Program}{w:World}{env:Env}{e:Expr}{f:Str}{pos:Pos}{s:Shared}{Q:Value->Shared->Prop}(hb:attributeBase e f env (eval e env)=eval e env)
  (h:wpAny (model prog w) A (eval e env) (fun o s₁=>wpAny (model prog w) A (getAttr o f true) Q E s₁) E s):wpAny (model prog w) A (eval (.Attribute e f pos) env) Q E s:=
 Attribute_any_ h (by rw[arm_eval_Attribute,hb])
end
def BN(K:PySem.W.Frag)(ta:TE)(f:Str):TE:=fun σ H Q=>ta σ H fun x H1=>∃a C dx fs v,x=.ref a/\H1 a=some (.ins C dx fs)/\oj K C/\aE K C f/\fs.lookup f=some v/\Q v H1
def BP(K:PySem.W.Frag)(ta tv:TE)(f:Str):TS:=fun D σ H=>tv σ H fun y H1=>ta σ H1 fun x H2=>∃a C dx fs,x=.ref a/\H2 a=some (.ins C dx fs)/\oj K C/\aE K C f/\fs.length<1000 /\
 D.nx σ (ap H2 a (.ins C dx (cg f y fs)))
section
variable {X:Cx}{o e value:Expr}{f:Str}{pos pos' tpos:Pos}{ta tv:TE}
theorem jq(he:PE X e ta)(hb:attributeBase e f X.env (eval e X.env)=eval e X.env):PE X (.Attribute e f pos) (BN X.K ta f):=by
 intro pins s σ H Q I h
 refine zx hb (bx (he pins s σ H _ I h) fun u s1 ⟨x,H1,I1,rx,a,C,dx,fs,v,ex,ea,c,n,l,q⟩=>?_)
 subst ex
 obtain rfl:u=Value.ref a:=rx
 exact sZ I1 ea c n l fun u' s2 I2 ru=>⟨v,H1,I2,ru,q⟩
theorem du(ha:PE X o ta)(hv:PE X value tv)(hs:swapsWith value (some (.Attribute o f pos')) pos.line X.env=pure false):PS X (.Assign [.Attribute o f pos'] value pos) (BP X.K ta tv f):=by
 intro pins s σ H D I h
 refine plainObj_wpAny_Assign_Attribute (bx (hv pins s σ H _ I h) fun u s1 ⟨y,H1,I1,ry,q⟩=>bx (ha pins s1 σ H1 _ I1 q) fun ov s2 ⟨x,H2,I2,rx,a,C,dx,fs,ex,ea,c,n,l,q2⟩=>?_) hs
 subst ex
 obtain rfl:ov=Value.ref a:=rx
 exact tU I2 ea c n l ry fun s3 I3=>⟨σ,_,I3,q2⟩
theorem Ai{pl:Sem Bool}{m:Str}{apos:Pos}{args:List Expr}{pins:List (Addr×Obj)}{s:Shared}{σ:St}{H:Hp}{Q:Value->Shared->Prop}{te:TE}(he:PE X e te)(I:aH X pins σ H s)
  (h:te σ H fun x H1=>∃a C dx fs g,x=.ref a/\H1 a=some (.ins C dx fs)/\oj X.K C/\nC X.K C m g/\fs.lookup m=none /\
   ∀s1,aH X pins σ H1 s1->wpAny (model X.prog X.w) X.A (callWith pos (.ref g) [.ref a] (backTo pos (starEach args X.env)) (backToKw pos (keywordEach [] X.env))) Q X.xe s1)
  (ht:eval (.Call (.Attribute e m apos) args [] pos) X.env=(do
   let ov <- eval e X.env
   standAt apos.atName
   let (f,first) <- holding [ov] (getMethod ov m pl)
   callWith pos f first (backTo pos (starEach args X.env)) (backToKw pos (keywordEach [] X.env)))) :
  wpAny (model X.prog X.w) X.A (eval (.Call (.Attribute e m apos) args [] pos) X.env) Q X.xe s:=by
 refine PySem.W.methodCall_KW (pl:=pl) (bx (he pins s σ H _ I h) fun u s1 ⟨x,H1,I1,rx,a,C,dx,fs,g,ex,ea,c,k,l,q⟩=>?_) ht
 subst ex
 obtain rfl:u=Value.ref a:=rx
 exact fh I1 ea c k l (q s1 I1)
end
section
variable {X:Cx}{pins:List (Addr×Obj)}{σ:St}{H:Hp}{s:Shared}{A:Around}{E:Value->Shared->Prop}{Q:Value->Shared->Prop}{c:Value}{b:Bool}
inductive h_(K:PySem.W.Frag)(H:Hp):V->Value->Prop where
 |non:h_ K H .non (.type "NoneType")
 |bl (x:Bool):h_ K H (.bl x) (.type "bool")
 |int (i:Int):h_ K H (.int i) (.type "int")
 |str (x:Str):h_ K H (.str x) (.type "str")
 |flt (x:UInt64):h_ K H (.flt x) (.type "float")
 |lst {a:Addr} {xs:List V} (e:H a=some (.lst xs)):h_ K H (.ref a) (.type "list")
 |frz {a:Addr} {o:Obj} {xs:List V} (e:H a=some (.frz o (.lst xs))):h_ K H (.ref a) (.type "list")
 |tup {a:Addr} {xs:List V} (e:H a=some (.tup xs)):h_ K H (.ref a) (.type "tuple")
 |dK {a:Addr} {kvs:List (cW×V)} (e:H a=some (.dK kvs)):h_ K H (.ref a) (.type "dict")
 |dT {a:Addr} {kvs:List (List cW×V)} (e:H a=some (.dT kvs)):h_ K H (.ref a) (.type "dict")
 |ins {a C dx:Addr} {fs:List (Str×V)} (e:H a=some (.ins C dx fs)) (cl:oj K C) (ha:PySem.W.findIn K (.ref C) "__class__"=some (some (.builtin "object.__class__")))
   (hn:PySem.W.specialIn K (.builtin "object.__class__") "__get__"=some (some (.builtin "getset_descriptor.__get__"))) (htk:PySem.W.takesIn K (.builtin "object.__class__")=some true)
   (hm:PySem.W.mroIn K C (.type "object")=some true):h_ K H (.ref a) (.ref C)
theorem wE{x:V}{u t:Value}(I:aH X pins σ H s)(rx:aY x u)(ty:h_ X.K H x t)(e:PySem.W.kitOne X.K t c=some b)(h:∀tk,Q (.bool b) {s with toks:=tk}) :
  wpAny (model X.prog X.w) A (call (.builtin "isinstance") [u,c]) Q E s:=by
 cases ty with
 |non=>cases(show u=Value.none from rx);exact PySem.W.kia_one PySem.W.kitx_none I.kIn True.intro e (fun z=>nomatch z) h
 |bl y=>cases(show u=Value.bool y from rx);exact PySem.W.kia_one PySem.W.kitx_bool I.kIn True.intro e (fun z=>nomatch z) h
 |int i=>obtain⟨t,q⟩:=(show ∃t,u=Value.int i t from rx);cases q;exact PySem.W.kia_one PySem.W.kitx_int I.kIn True.intro e (fun z=>nomatch z) h
 |str y=>obtain⟨t,q⟩:=(show ∃t,u=Value.str y t from rx);cases q;exact PySem.W.kia_one PySem.W.kitx_str I.kIn True.intro e (fun z=>nomatch z) h
 |flt y=>obtain⟨t,q⟩:=(show ∃t,u=Value.float y t from rx);cases q;exact PySem.W.kia_one PySem.W.kitx_float I.kIn True.intro e (fun z=>nomatch z) h
 | @lst a xs ea=>
  cases(show u=Value.ref a from rx)
  obtain⟨_,_,n,_,h1⟩:=(show bC X.prog X.w H s.heap a (.lst xs) from I.hok a _ ea)
  exact PySem.W.kia_one PySem.W.kitx_list I.kIn ⟨_,h1,rfl⟩ e (fun z=>nomatch z) h
 | @frz a ob xs ea=>
  cases(show u=Value.ref a from rx)
  obtain⟨_,_,_,n,_,h1⟩:=(show bC X.prog X.w H s.heap a (.frz ob (.lst xs)) from I.hok a _ ea)
  exact PySem.W.kia_one PySem.W.kitx_list I.kIn ⟨_,h1,rfl⟩ e (fun z=>nomatch z) h
 | @tup a xs ea=>
  cases(show u=Value.ref a from rx)
  obtain⟨_,_,_,p⟩:=(show bC X.prog X.w H s.heap a (.tup xs) from I.hok a _ ea)
  obtain⟨o,h1,h2,_⟩:=p
  exact PySem.W.kia_one PySem.W.kitx_tuple I.kIn ⟨o,h1,h2⟩ e (fun z=>nomatch z) h
 | @dK a kvs ea=>
  cases(show u=Value.ref a from rx)
  obtain⟨_,_,vs,_,p⟩:=(show bC X.prog X.w H s.heap a (.dK kvs) from I.hok a _ ea)
  obtain⟨o,es,ep,h1,h2,_⟩:=p
  exact PySem.W.kia_one PySem.W.kitx_dict I.kIn ⟨o,h1,h2.1⟩ e (fun z=>nomatch z) h
 | @dT a kvs ea=>
  cases(show u=Value.ref a from rx)
  obtain⟨_,_,xs,_,o,es,ep,h1,h2,_⟩:=(show bC X.prog X.w H s.heap a (.dT kvs) from I.hok a _ ea)
  exact PySem.W.kia_one PySem.W.kitx_dict I.kIn ⟨o,h1,h2.1⟩ e (fun z=>nomatch z) h
 | @ins a C dx fs ea cl ha hn htk hm=>
  cases(show u=Value.ref a from rx)
  obtain⟨mA,O,_⟩:=mf I.hok ea
  obtain⟨od,J,_⟩:=O.look
  exact PySem.W.kia_one (PySem.W.kitx_own (cl.get _) cl.hd ha hn htk hm) I.kIn J e (fun z=>nomatch z) h
end
structure cI(k:Nat)(A:Around):Prop where
 hd:A.handled=none
 dp:A.depth+3*k+5<recursionLimit
 un:A.units+16*k+200<cLine
theorem cI.mono{j k:Nat}{A:Around}(r:cI k A)(h:j<=k):cI j A:=⟨r.hd,by have:=r.dp;omega,by have:=r.un;omega⟩
theorem cI.deeper{k:Nat}{A:Around}(r:cI (k+1) A)(env:Env):cI k (A.deeper env):=
 ⟨r.hd,by have:=r.dp;show A.depth+1+3*k+5<_;omega,by have:=r.un;show A.units+3+16*k+200<_;omega⟩
theorem um{A:Around}{C:Addr}{us:List Value}{kw:List (Str×Value)}:(A.under (.builtin "type.__call__" ⟨.ref C::us,kw⟩)).depth=A.depth+1:=by
 first | rfl | simp[Around.under,Code.weight,Code.isCreation,Code.isGuard,Code.isCaller,Code.frames,Code.isFrame,guardIds]
theorem tS{A:Around}{C:Addr}{us:List Value}{kw:List (Str×Value)}:(A.under (.builtin "type.__call__" ⟨.ref C::us,kw⟩)).units=A.units+1:=by
 first | rfl | simp[Around.under,Code.cUnits,Code.frames,Code.isFrame]
theorem cI.make{k:Nat}{A:Around}(r:cI (k+1) A)(C:Addr)(us:List Value)(kw:List (Str×Value)):cI k (A.under (.builtin "type.__call__" ⟨.ref C::us,kw⟩)):=
 ⟨r.hd,by have:=r.dp;rw[um];omega,by have:=r.un;rw[tS];omega⟩
theorem cI.depth{k:Nat}{A:Around}(r:cI k A):A.depth<recursionLimit:=by have:=r.dp;omega
theorem cI.units{k:Nat}{A:Around}(r:cI k A):A.units+64<cLine:=by have:=r.un;omega
def qK:TA:=fun _ H Q=>Q [] H
def j9(ta:TE)(tr:TA):TA:=fun σ H Q=>ta σ H fun x H1=>tr σ H1 fun xs H2=>Q (x::xs) H2
section
variable {X:Cx}{e:Expr}{es:List Expr}{te:TE}{t:TA}{pos:Pos}
theorem ae:PA X [] qK:=fun _ _ _ _ H Q I h=>Calls.spliced_nil ⟨[],H,I,.nil,h⟩
theorem aa(ha:PE X e te)(hr:PA X es t)(hs:starEach (e::es) X.env=(false,eval e X.env)::starEach es X.env:=by rfl):PA X (e::es) (j9 te t):=by
 intro pos pins s σ H Q I h
 rw[hs]
 show wpAny _ _ (spliced ((false,eval e X.env)::backTo pos (starEach es X.env))) _ _ s
 refine Calls.spliced_cons (bx (ha pins s σ H _ I h) fun u s1 ⟨x,H1,I1,r1,q1⟩=>?_)
 exact bx (hr pos pins s1 σ H1 _ I1 q1) fun us s2 ⟨xs,H2,I2,r2,q2⟩=>⟨x::xs,H2,I2,.cons r1 r2,q2⟩
def AB(t:TA):TE:=fun σ H Q=>t σ H fun xs H1=>xs.length<=sizeLine/\∀p,H1 p=none->Q (.ref p) (ap H1 p (.tup xs))
def y4(t:TA):TE:=fun σ H Q=>t σ H fun xs H1=>xs.length<=sizeLine/\∀p,H1 p=none->Q (.ref p) (ap H1 p (.lst xs))
theorem aW{x1}(h:PA X es t):PE X (.Tuple es x1 pos) (AB t):=by
 intro pins s σ H Q I hq
 refine wpAny_Tuple_spliced (bx (h pos pins s σ H _ I hq) fun us s1 ⟨xs,H1,I1,r,z,q⟩=>⟨by rw[<- r.length];exact z,?_⟩)
 have hf:H1 s1.heap.objs.size=none:=I1.hok.fresh (Gc _)
 refine⟨.ref s1.heap.objs.size,ap H1 s1.heap.objs.size (.tup xs),I1.laid (t':=s1.toks) (fun b u e=>FR _ e) (Gc _) ?_,rfl,q _ hf⟩
 exact⟨z,us,r,⟨_,FX _ rfl,rfl,_,rfl⟩⟩
theorem bf(h:PA X es t):PE X (.List es pos) (y4 t):=by
 intro pins s σ H Q I hq
 refine wpAny_List_spliced (bx (h pos pins s σ H _ I hq) fun us s1 ⟨xs,H1,I1,r,z,q⟩=>⟨by rw[<- r.length];exact z,?_⟩)
 have hf:H1 s1.heap.objs.size=none:=I1.hok.fresh (Gc _)
 refine⟨.ref s1.heap.objs.size,ap H1 s1.heap.objs.size (.lst xs),I1.laid (t':=s1.toks) (fun b u e=>FR _ e) (Gc _) ?_,rfl,q _ hf⟩
 exact⟨z,us,0,r,FX _ rfl⟩
end
abbrev Sp:=List V->Hp->VK->XK->Prop
abbrev jH:=List Env->Hp->Shared->XK->Value->Shared->Prop
structure rJ(P:Program)(w:World)(K:PySem.W.Frag)(mg:Str->Option Value)(base:Heap)(A:Around)(outer:List Env)(s:Shared)(H:Hp):Prop where
 frames:A.frames=some outer
 mod:Mod K mg base
 bs:∀b o,base.get? b=some o->s.heap.get? b=some o/\H b=none
 bsz:base.objs.size<=s.heap.objs.size
 funs:s.heap.FunFrames base outer
 frf:∀b∈lg outer,H b=none
 hok:i5 P w H s.heap
 bare:AllBare s.gens
def CE(outer:List Env)(P:Program)(w:World)(H:Hp)(s:Shared)(Q:VK)(u:Value)(s':Shared):Prop:=
 ∃v H',s'.os=s.os/\AllBare s'.gens/\Un (lg outer) [] H H' s.heap s'.heap/\i5 P w H' s'.heap/\aY v u/\Q v H'
def CR(CX:jH)(outer:List Env)(P:Program)(w:World)(H:Hp)(s:Shared)(Q:VK)(E:XK)(r:Result)(s':Shared):Prop:=
 match r with
 | .ok (.ret u)=>CE outer P w H s Q u s'
 | .ok _=>False
 | .error e=>CX outer H s E e s'
structure bb(P:Program)(w:World)(K:PySem.W.Frag)(mg:Str->Option Value)(base:Heap)(CX:jH)(k:Nat)(f:Addr)(fd:FuncData)(ps:List Str)(sp:Sp):Prop where
 len:∀vs H Q E,sp vs H Q E->vs.length=ps.length
 run:∀(A:Around) (outer:List Env) (s:Shared) (H:Hp) (args:Args) (us:List Value) (vs:List V) (Q:VK) (E:XK),cI k A->rJ P w K mg base A outer s H->BindsTo s fd args (ps.zip us)->aS vs us->sp vs H Q E ->
  codeAny (model P w) A (.call (.ref f) args) (CR CX outer P w H s Q E) s
theorem rJ.make{P:Program}{w:World}{K:PySem.W.Frag}{mg:Str->Option Value}{base:Heap}{A:Around}{outer:List Env}{s:Shared}{H:Hp}(e:rJ P w K mg base A outer s H)(C:Addr)(us:List Value)(kw:List (Str×Value)) :
  rJ P w K mg base (A.under (.builtin "type.__call__" ⟨.ref C::us,kw⟩)) outer s H:=⟨by first | exact e.frames | (simpa[Around.under,Code.envs,Code.isFrame,pushEnvs]using e.frames),e.mod,e.bs,e.bsz,e.funs,e.frf,e.hok,e.bare⟩
section
variable {X:Cx}{pins:List (Addr×Obj)}{σ:St}{H:Hp}{s s':Shared}
theorem aH.env0(I:aH X pins σ H s):rJ X.prog X.w X.K X.mg X.base X.A X.stack s H:=
 ⟨I.ok.frames,I.ok.mod,I.bs,Gn I.ok.bsz I.sz,I.stack,I.stkFree,I.hok,I.bare⟩
theorem aH.after{Q:VK}{u:Value}(I:aH X pins σ H s)(h:CE X.stack X.prog X.w H s Q u s'):EP X pins σ Q u s':=by
 obtain⟨v,H',os,bare,un,hok,r,q⟩:=h
 obtain⟨hh,g,d,t,os'⟩:=s'
 obtain rfl:os'=s.os:=os
 exact⟨v,H',I.call (h':=hh) (g':=g) (d':=d) (t':=t) (ch:=[]) un hok bare (fun b z=>absurd z (by simp)),r,q⟩
end
def pj(sp:Sp)(dvs:List V)(E:XK)(t:TA):TE:=fun σ H Q=>t σ H fun vs H1=>sp (vs++dvs) H1 Q E
def sw(C:Addr)(m:Str)(sp:Sp)(dvs:List V)(E:XK)(ta:TE)(t:TA):TE:=fun σ H Q=>ta σ H fun x H1=>∃a dx fs,x=.ref a/\H1 a=some (.ins C dx fs)/\fs.lookup m=none /\
 t σ H1 fun vs H2=>sp (x::(vs++dvs)) H2 Q E
def x9(C:Addr)(sp:Sp)(dvs:List V)(E:XK)(t:TA):TE:=fun σ H Q=>t σ H fun vs H1=>∀x dx,H1 x=none->H1 dx=none->dx≠x ->
 sp (.ref x::(vs++dvs)) (ap (ap H1 dx (.own x)) x (.ins C dx [])) (fun v H2=>v=.non/\Q (.ref x) H2) E
def dq(K:PySem.W.Frag)(fd:FuncData)(ps:List Str)(ds:List Value):Prop:=
 ∀(s:Shared) (us:List Value),K.In s.heap->(us++ds).length=ps.length->BindsTo s fd ⟨us,[]⟩ (ps.zip (us++ds))
theorem dq.all{K:PySem.W.Frag}{fd:FuncData}{ps:List Str}(h:∀us:List Value,us.length=ps.length->bindArgs fd ⟨us,[]⟩=pure (ps.zip us)):dq K fd ps []:=fun s us _ hl=>by
 rw[Gq]at hl ⊢
 exact .of_eq (h us hl)
def cn(CX:jH)(X:Cx)(E:XK):Prop:=∀(pins:List (Addr×Obj)) (σ:St) (H:Hp) (s:Shared) (e:Value) (s':Shared),aH X pins σ H s->CX X.stack H s E e s'->X.xe e s'
section
variable {X:Cx}{CX:jH}{k:Nat}{f C:Addr}{fd:FuncData}{ps:List Str}{sp:Sp}{dvs:List V}{ds:List Value}{E:XK}{x m:Str}{p pos apos:Pos}{e o:Expr}{es:List Expr}{ta:TE}{t:TA}
theorem lB{pins:List (Addr×Obj)}{σ:St}{H:Hp}{s:Shared}{Q:VK}{us:List Value}{vs:List V}(F:bb X.prog X.w X.K X.mg X.base CX k f fd ps sp)(hr:cI k X.A)(hb:dq X.K fd ps ds)(hd:aS dvs ds)(hx:cn CX X E)
  (I:aH X pins σ H s) (r:aS vs us) (h:sp (vs++dvs) H Q E):wpAny (model X.prog X.w) X.A (call (.ref f) us) (EP X pins σ Q) X.xe s:=by
 have r2:aS (vs++dvs) (us++ds):=r.append hd
 have hl:(us++ds).length=ps.length:=by rw[<- r2.length];exact F.len _ _ _ _ h
 refine wpAny_call (codeAny_mono (F.run X.A X.stack s H ⟨us,[]⟩ (us++ds) (vs++dvs) Q E hr I.env0 (hb s us I.kIn hl) r2 h) fun r s' hq=>?_)
 cases r with
 |error e=>exact hx pins σ H s e s' I hq
 |ok fl=>
  cases fl with
  |ret u=>exact I.after hq
  |next=>exact False.elim hq
  |brk=>exact False.elim hq
  |cont=>exact False.elim hq
theorem zh(F:bb X.prog X.w X.K X.mg X.base CX k f fd ps sp)(hr:cI k X.A)(hg:Gl X x)(hm:X.mg x=some (.ref f))(hk:PySem.W.keepIn X.K (.ref f)=true)(hb:dq X.K fd ps ds)(hd:aS dvs ds)(hx:cn CX X E)
  (ha:PA X (e::es) t) (hdb:(x==("__debug__":Str))=false:=by decide) (he:starEach (e::es) X.env=(false,eval e X.env)::starEach es X.env:=by rfl) (hpl:(backTo pos (starEach es X.env)).any (·.1)=false:=by rfl) :
  PE X (.Call (.Name x p) (e::es) [] pos) (pj sp dvs E t):=by
 intro pins s σ H Q I h
 refine wpAny_Call_Name_kw (iO I hg hm ?_ hdb)
 refine PySem.W.callWith_K (h₀:=X.base) I.ok.mod.kin hk (bx (ha pos pins s σ H _ I h) fun us s1 ⟨vs,H1,I1,r,q⟩=>⟨I1.kIn,?_⟩) he hpl
 exact lB F hr hb hd hx I1 r q
theorem zE{pl:Sem Bool}(he:PE X o ta)(c:oj X.K C)(hm:nC X.K C m f)(F:bb X.prog X.w X.K X.mg X.base CX k f fd ps sp)(hr:cI k X.A)(hb:dq X.K fd ps ds)(hd:aS dvs ds)(hx:cn CX X E)(ha:PA X (e::es) t)
  (hst:starEach (e::es) X.env=(false,eval e X.env)::starEach es X.env:=by rfl) (hpl:(backTo pos (starEach es X.env)).any (·.1)=false:=by rfl)
  (ht:eval (.Call (.Attribute o m apos) (e::es) [] pos) X.env=(do
   let ov <- eval o X.env
   standAt apos.atName
   let (f,first) <- holding [ov] (getMethod ov m pl)
   callWith pos f first (backTo pos (starEach (e::es) X.env)) (backToKw pos (keywordEach [] X.env))):=by rfl) :
  PE X (.Call (.Attribute o m apos) (e::es) [] pos) (sw C m sp dvs E ta t):=by
 intro pins s σ H Q I h
 refine PySem.W.methodCall_KW (pl:=pl) (bx (he pins s σ H _ I h) fun u s1 ⟨x,H1,I1,rx,a,dx,fs,ex,ea,l,q⟩=>?_) ht
 subst ex
 obtain rfl:u=Value.ref a:=rx
 refine fh I1 ea c hm l ?_
 refine PySem.W.callWith_K (first:=[.ref a]) (h₀:=X.base) I.ok.mod.kin hm.kp (bx (ha pos pins s1 σ H1 _ I1 q) fun us s2 ⟨vs,H2,I2,r,q2⟩=>⟨I2.kIn,?_⟩) hst hpl
 exact lB (us:=.ref a::us) (vs:=.ref a::vs) F hr hb hd hx I2 (.cons rfl r) q2
theorem wL{pl:Sem Bool}(he:PE X o ta)(c:oj X.K C)(hm:nC X.K C m f)(F:bb X.prog X.w X.K X.mg X.base CX k f fd ps sp)(hr:cI k X.A)(hb:dq X.K fd ps ds)(hd:aS dvs ds)(hx:cn CX X E)
  (ht:eval (.Call (.Attribute o m apos) [] [] pos) X.env=(do
   let ov <- eval o X.env
   standAt apos.atName
   let (f,first) <- holding [ov] (getMethod ov m pl)
   callWith pos f first (backTo pos (starEach [] X.env)) (backToKw pos (keywordEach [] X.env))):=by rfl) :
  PE X (.Call (.Attribute o m apos) [] [] pos) (sw C m sp dvs E ta qK):=by
 intro pins s σ H Q I h
 refine PySem.W.methodCall_KW (pl:=pl) (bx (he pins s σ H _ I h) fun u s1 ⟨x,H1,I1,rx,a,dx,fs,ex,ea,l,q⟩=>?_) ht
 subst ex
 obtain rfl:u=Value.ref a:=rx
 refine fh I1 ea c hm l ?_
 exact PySem.W.callWith_K0 (first:=[.ref a]) I1.kIn hm.kp (lB (us:=[.ref a]) (vs:=[.ref a]) F hr hb hd hx I1 (.cons rfl .nil) q)
structure Mk(K:PySem.W.Frag)(C f:Addr):Prop where
 makes:PySem.W.makesIn K C=true
 init:PySem.W.findIn K (.ref C) "__init__"=some (some (.ref f))
 fn:PySem.W.isFn K (.ref f)=true
 kp:PySem.W.keepIn K (.ref C)=true
theorem xB{pins:List (Addr×Obj)}{σ:St}{H:Hp}{s:Shared}{Q:VK}{us:List Value}{vs:List V}(M:Mk X.K C f)(F:bb X.prog X.w X.K X.mg X.base CX k f fd ps sp)(hr:cI (k+1) X.A)(hb:dq X.K fd ps ds)(hd:aS dvs ds)
  (hx:cn CX X E) (I:aH X pins σ H s) (r:aS vs us)
  (h:∀x dx,H x=none->H dx=none->dx≠x->sp (.ref x::(vs++dvs)) (ap (ap H dx (.own x)) x (.ins C dx [])) (fun v H2=>v=.non/\Q (.ref x) H2) E) :
  wpAny (model X.prog X.w) X.A (call (.ref C) us) (EP X pins σ Q) X.xe s:=by
 have hq:=h (s.heap.objs.size+1) s.heap.objs.size (I.hok.fresh (Nat.le_succ _)) (I.hok.fresh (Gc _)) (F_ (Gp _))
 have I2:=aH.made (C:=C) I
 have r2:aS (V.ref (s.heap.objs.size+1)::(vs++dvs)) (Value.ref (s.heap.objs.size+1)::(us++ds)):=.cons rfl (r.append hd)
 have hl:(Value.ref (s.heap.objs.size+1)::us++ds).length=ps.length:=by
  have e:=r2.length
  rw[F.len _ _ _ _ hq]at e
  exact e.symm
 refine wpAny_call (xx (f:=f) I.kIn M.makes M.init (beq_iff_eq.mp M.fn) (codeAny_mono (F.run _ X.stack _ _ ⟨Value.ref (s.heap.objs.size+1)::us,[]⟩ (Value.ref (s.heap.objs.size+1)::(us++ds)) _ _ E (hr.make C us [])
  (I2.env0.make C us []) (hb _ (Value.ref (s.heap.objs.size+1)::us) I2.kIn hl) r2 hq) fun r s' hq'=>?_))
 cases r with
 |error e=>exact hx pins σ _ _ e s' I2 hq'
 |ok fl=>
  cases fl with
  |ret u=>
   obtain⟨v,H',I3,rv,ev,q3⟩:=I2.after hq'
   subst ev
   exact⟨rv,⟨V.ref (s.heap.objs.size+1),H',I3,rfl,q3⟩⟩
  |next=>exact False.elim hq'
  |brk=>exact False.elim hq'
  |cont=>exact False.elim hq'
theorem yO(M:Mk X.K C f)(F:bb X.prog X.w X.K X.mg X.base CX k f fd ps sp)(hr:cI (k+1) X.A)(hg:Gl X x)(hm:X.mg x=some (.ref C))(hb:dq X.K fd ps ds)(hd:aS dvs ds)(hx:cn CX X E)
  (ha:PA X (e::es) t) (hdb:(x==("__debug__":Str))=false:=by decide) (he:starEach (e::es) X.env=(false,eval e X.env)::starEach es X.env:=by rfl) (hpl:(backTo pos (starEach es X.env)).any (·.1)=false:=by rfl) :
  PE X (.Call (.Name x p) (e::es) [] pos) (x9 C sp dvs E t):=by
 intro pins s σ H Q I h
 refine wpAny_Call_Name_kw (iO I hg hm ?_ hdb)
 refine PySem.W.callWith_K (h₀:=X.base) I.ok.mod.kin M.kp (bx (ha pos pins s σ H _ I h) fun us s1 ⟨vs,H1,I1,r,q⟩=>⟨I1.kIn,?_⟩) he hpl
 exact xB M F hr hb hd hx I1 r q
end
def PK(X:Cx)(kws:List Keyword)(t:TA):Prop:=
 ∀(pos:Pos) (pins:List (Addr×Obj)) (s:Shared) (σ:St) (H:Hp) (Q:List V->Hp->Prop),aH X pins σ H s->t σ H Q->wpAny (model X.prog X.w) X.A (evalAll ((backToKw pos (keywordEach kws X.env)).map (·.2))) (AP X pins σ Q) X.xe s
section
variable {X:Cx}{CX:jH}{k:Nat}{f C:Addr}{fd:FuncData}{ps ks:List Str}{sp:Sp}{E:XK}{x m:Str}{p pos apos kpos:Pos}{e o:Expr}{es:List Expr}{kws:List Keyword}{te ta:TE}{t tk:TA}{nm:Option Str}
theorem Au:PK X [] qK:=fun _ _ _ _ H Q I h=>wpAny_evalAll_nil ⟨[],H,I,.nil,h⟩
theorem zL(ha:PE X e te)(hr:PK X kws t):PK X (⟨nm,e,kpos⟩::kws) (j9 te t):=by
 intro pos pins s σ H Q I h
 show wpAny _ _ (evalAll ((do let v <- eval e X.env;standAt pos;pure v)::(backToKw pos (keywordEach kws X.env)).map (·.2))) _ _ s
 refine wpAny_evalAll_cons (wpAny_bind (bx (ha pins s σ H _ I h) fun u s1 ⟨x,H1,I1,r1,q1⟩=>wpAny_bind (wpAny_standAt (wpAny_pure ?_))))
 exact bx (hr pos pins s1 σ H1 _ I1 q1) fun us s2 ⟨xs,H2,I2,r2,q2⟩=>⟨x::xs,H2,I2,.cons r1 r2,q2⟩
structure CA(K:PySem.W.Frag)(fd:FuncData)(ps ks:List Str)(g:List Value->List Value->List Value)(gV:List V->List V->List V):Prop where
 to:∀(s:Shared) (us ws:List Value),K.In s.heap->(g us ws).length=ps.length->BindsTo s fd ⟨us,ks.zip ws⟩ (ps.zip (g us ws))
 rel:∀{vs:List V} {us:List Value} {zs:List V} {ws:List Value},aS vs us->aS zs ws->aS (gV vs zs) (g us ws)
variable {g:List Value->List Value->List Value}{gV:List V->List V->List V}
end
structure aI(N P:List Str)(sc:Scope):Prop where
 kind:sc.kind=.function
 co:sc.isCoroutine=false
 gen:sc.isGenerator=false
 nd:N.Nodup
 pre:N.take P.length=P
 par:∀x∈P,sc.names.lookup x=some .local\/sc.names.lookup x=some .cell
 nofree:∀y∈sc.names,y.2≠.free
theorem on{kindOf:Str->Option NameKind}{x:Str}:∀{binds:List (Str×Value)} {m:Str->Option Value},(∀v,(x,v)∉binds)->bindL kindOf binds m x=m x
 | [],_,_=>rfl
 | (n,v)::r,m,h=>by
  unfold bindL
  rw[on fun w hw=>h w (F7 _ hw)]
  split
  ·have:x≠n:=by rintro rfl;exact h v List.mem_cons_self
   simp[this]
  ·rfl
theorem o7{kindOf:Str->Option NameKind}{x:Str}:∀{binds:List (Str×Value)} {m:Str->Option Value},(∀v,(x,v)∉binds)->bindC kindOf binds m x=m x
 | [],_,_=>rfl
 | (n,v)::r,m,h=>by
  unfold bindC
  rw[o7 fun w hw=>h w (F7 _ hw)]
  split
  ·rfl
  ·have:x≠n:=by rintro rfl;exact h v List.mem_cons_self
   simp[this]
theorem ou{kindOf:Str->Option NameKind}{x:Str}{v:Value}:∀{P:List Str} {vs:List Value} {i:Nat} {m:Str->Option Value},P.Nodup->P[i]?=some x->vs[i]?=some v->kindOf x=some .local ->
  bindL kindOf (P.zip vs) m x=some v
 | [],_,_,_,_,h,_,_=>by simp at h
 |_::_,[],_,_,_,_,h,_=>by simp at h
 |p::P,w::vs,0,m,nd,h1,h2,hk=>by
  simp at h1 h2;subst h1;subst h2
  show bindL kindOf ((p,w)::P.zip vs) m p=_
  unfold bindL
  rw[on fun v hv=>(List.nodup_cons.mp nd).1 (List.of_mem_zip hv).1,if_pos hk]
  simp
 |p::P,w::vs,i+1,m,nd,h1,h2,hk=>by
  show bindL kindOf ((p,w)::P.zip vs) m x=_
  unfold bindL
  exact ou (i:=i) (List.nodup_cons.mp nd).2 (by simpa using h1) (by simpa using h2) hk
theorem oE{kindOf:Str->Option NameKind}{x:Str}{v:Value}:∀{P:List Str} {vs:List Value} {i:Nat} {m:Str->Option Value},P.Nodup->P[i]?=some x->vs[i]?=some v->kindOf x≠some .local ->
  bindC kindOf (P.zip vs) m x=some v
 | [],_,_,_,_,h,_,_=>by simp at h
 |_::_,[],_,_,_,_,h,_=>by simp at h
 |p::P,w::vs,0,m,nd,h1,h2,hk=>by
  simp at h1 h2;subst h1;subst h2
  show bindC kindOf ((p,w)::P.zip vs) m p=_
  unfold bindC
  rw[o7 fun v hv=>(List.nodup_cons.mp nd).1 (List.of_mem_zip hv).1,if_neg hk]
  simp
 |p::P,w::vs,i+1,m,nd,h1,h2,hk=>by
  show bindC kindOf ((p,w)::P.zip vs) m x=_
  unfold bindC
  exact oE (i:=i) (List.nodup_cons.mp nd).2 (by simpa using h1) (by simpa using h2) hk
def start(N:List Str)(vs:List V):St:=vs.map some++List.replicate (N.length-vs.length) none
def fq(CX:jH)(P:Program)(w:World)(K:PySem.W.Frag)(mg:Str->Option Value)(base:Heap)(N:List Str)(qual:Str)(scope:Scope)(f:Addr)(cd:Value)(A:Around)(outer:List Env)(s:Shared)(H:Hp)(E:XK):Cx where
 prog:=P
 w:=w
 K:=K
 mg:=mg
 base:=base
 A:=A.deeper (envOfC qual scope s.heap.objs.size f cd)
 N:=N
 s₀:=s
 H₀:=H
 env:=envOfC qual scope s.heap.objs.size f cd
 outer:=outer
 stack:=envOfC qual scope s.heap.objs.size f cd::outer
 ex:=[]
 calm:=true
 fn:=fun _=>true
 pn:=[]
 xe:=fun e s'=>wpAny (model P w) (A.deeper (envOfC qual scope s.heap.objs.size f cd)) (leaving (envOfC qual scope s.heap.objs.size f cd) e) (fun _ s''=>CX outer H s E e s'') (fun e' s''=>CX outer H s E e' s'') s'
theorem qX{sc:Scope}{n:Nat}{x:Str}(h:sc.names.lookup x=some .cell):∃c,(cellsFrom n sc.names []).lookup x=some c:=by
 have q:=PySem.W.cellsFrom_some sc.names n [] (.inl h)
 exact Option.isSome_iff_exists.mp q
theorem vQ{CX:jH}{P:Program}{w:World}{K:PySem.W.Frag}{mg:Str->Option Value}{base:Heap}{N ps:List Str}{qual:Str}{scope:Scope}{f:Addr}{cd:Value}{A:Around}{outer:List Env}{s s1:Shared}{H:Hp}{E:XK}{us:List Value}{vs:List V}
  (S:aI N ps scope) (hd:A.handled=none) (e0:rJ P w K mg base A outer s H) (hl:vs.length=ps.length) (r:aS vs us)
  (x:InCallC s s.heap.objs.size (bindL (envOfC qual scope s.heap.objs.size f cd).kindOf (ps.zip us) fun _=>none) (cellsFrom (s.heap.objs.size+1) scope.names []) (bindC (envOfC qual scope s.heap.objs.size f cd).kindOf (ps.zip us) fun _=>none) s1) :
  aH (fq CX P w K mg base N qual scope f cd A outer s H E) [] (start N vs) H s1:=by
 have hpl:ps.length<=N.length:=by have:=congrArg List.length S.pre;rw[Gw]at this;omega
 obtain⟨h1,tk,rfl,hk⟩:=x.done
 have noA:∀b:Addr,b∉(fq CX P w K mg base N qual scope f cd A outer s H E).ex:=fun b z=>absurd (show b∈([]:List Addr) from z) (by simp)
 refine⟨⟨e0.mod,S.kind,rfl,rfl,Gc _,fun y z c h1 h2=>?_,fun y hy=>?_,fun y c _ h=>?_,fun _=>hd,Around.frames_deeper e0.frames,.inr ⟨rfl,rfl⟩,fun b z=>absurd z (noA b),e0.bs,e0.bsz,fun b _ _=>noA b,fun b z=>absurd z (noA b),e0.funs,e0.frf⟩,
  rfl,e0.bare,Un.kept hk,⟨_,x.toInCall.ns,fun i y v h1 h2 h3=>?_⟩,fun y c h=>⟨_,x.cell y c h⟩,e0.hok.fresh (Gc _),fun y c h=>?_,fun p hp=>absurd (show p∈([]:List (Addr×Obj)) from hp) (by simp),e0.hok.kept hk,?_⟩
 ·exact name_of_addr x.apart (PySem.mem_of_lookup h1) (PySem.mem_of_lookup h2)
 ·have hy:scope.names.lookup y=some .cell\/scope.names.lookup y=some .free:=hy
  rcases hy with hy | hy
  ·exact qX hy
  ·exact absurd rfl (S.nofree _ (PySem.mem_of_lookup hy))
 ·exact Nat.le_of_lt (x.above y c (PySem.mem_of_lookup h))
 ·have hi:i<vs.length:=by
   unfold start at h2
   by_cases hi:i<vs.length
   ·exact hi
   ·rw[F' (by simpa using hi)]at h2
    rw[List.getElem?_replicate]at h2
    split at h2<;>cases h2
  have ha:vs[i]?=some v:=by
   unfold start at h2
   rw[Ga (by simpa using hi),FU]at h2
   cases e:vs[i]? with
   |none=>rw[e]at h2;cases h2
   |some a=>rw[e]at h2;cases h2;rfl
  obtain⟨u,hu,rv⟩:=r.get ha
  have hp:ps[i]?=some y:=by
   rw[<- S.pre,List.getElem?_take_of_lt (by omega)];exact h1
  have ndP:ps.Nodup:=by rw[<- S.pre];exact S.nd.sublist (List.take_sublist _ _)
  refine⟨u,rv,?_⟩
  rcases S.par y (FV hp) with k | k
  ·exact .inl ⟨k,ou ndP hp hu k⟩
  ·obtain⟨c,e⟩:=qX (n:=s.heap.objs.size+1) k
   refine .inr ⟨.inl k,c,e,?_⟩
   have q:=x.cell y c e
   rw[oE ndP hp hu (by show scope.names.lookup y≠_;rw[k];decide)]at q
   exact q
 ·exact e0.hok.fresh (Nat.le_of_lt (x.above y c (PySem.mem_of_lookup h)))
 ·unfold start
  show _=N.length
  rw[Gb,FS,List.length_replicate]
  omega
theorem Aa{CX:jH}{P:Program}{w:World}{K:PySem.W.Frag}{mg:Str->Option Value}{base:Heap}{k:Nat}{f:Addr}{name qual:Str}{params:Arguments}{body:List Stmt}{scope:Scope}{dV kV doc pm cdv ct oc:Value}{an od:Option Addr}
  {osl:Array (Option Value)} {N ps:List Str} {sp:Sp} (lk:K.lookup f=some ⟨oc,od,.func (PySem.W.fnOf name qual params body scope dV kV doc pm an cdv ct),osl⟩) (hcd:PySem.W.codeIn K cdv qual=true) (S:aI N ps scope)
  (len:∀vs H Q E,sp vs H Q E->vs.length=ps.length)
  (hbody:∀(A:Around) (outer:List Env) (s:Shared) (H:Hp) (vs:List V) (Q:VK) (E:XK),cI k (A.deeper (envOfC qual scope s.heap.objs.size f cdv))->sp vs H Q E ->
   ∃t,qV (fq CX P w K mg base N qual scope f cdv A outer s H E) body t/\t {nx:=fun _ H'=>Q .non H',rt:=Q} (start N vs) H) :
  bb P w K mg base CX (k+1) f (PySem.W.fnOf name qual params body scope dV kV doc pm an cdv ct) ps sp:=by
 refine⟨len,fun A outer s H args us vs Q E hr e0 hb r hsp=>?_⟩
 have hl:=len _ _ _ _ hsp
 have KX:K.In s.heap:=e0.mod.kin.keeps fun b o e=>(e0.bs b o e).1
 have lim:s.heap.NoLimit:=e0.mod.nolimit.keeps fun b o e=>(e0.bs b o e).1
 have hkind:∀y∈ps.zip us,scope.names.lookup y.1=some .local\/(scope.names.lookup y.1=some .cell/\((cellsFrom (s.heap.objs.size+1) scope.names []).lookup y.1).isSome=true):=fun⟨n,v⟩ hy=>by
  rcases S.par n (List.of_mem_zip hy).1 with q | q
  ·exact .inl q
  ·exact .inr ⟨q,PySem.W.cellsFrom_some _ _ _ (.inl q)⟩
 refine codeAny_call_function hr.depth (KX _ _ lk) rfl S.co S.gen rfl (PySem.W.codeRec_of KX hcd) (hb _ _ _ _ ?_)
 refine wpAny_newFunctionEnv_cells S.kind hkind fun env he s1 x=>?_
 subst he
 refine⟨lim.keeps x.toInCall.keep,codeAny_func ?_⟩
 obtain⟨t,ht,hq⟩:=hbody A outer s H vs Q E (hr.deeper _) hsp
 have I:aH (fq CX P w K mg base N qual scope f cdv A outer s H E) [] (start N vs) H s1:=vQ S hr.hd e0 hl r x
 refine wpAny_mono (ht [] s1 (start N vs) H _ I hq) (fun fl s' hs=>?_) fun e s' hs=>hs
 have fin:∀{σ':St} {H':Hp} {v:V} {u:Value},aH (fq CX P w K mg base N qual scope f cdv A outer s H E) [] σ' H' s'->aY v u->Q v H'->CE outer P w H s Q u s':=
  fun{σ' H' v u} J rv q=>⟨v,H',J.os,J.bare,J.base,J.hok,rv,q⟩
 cases fl with
 |ret u=>
  obtain⟨v,σ',H',J,rv,q⟩:=hs
  exact fin J rv q
 |next=>
  obtain⟨σ',H',J,q⟩:=hs
  exact fin (v:=V.non) (u:=Value.none) J rfl q
 |brk=>
  obtain⟨_,_,_,q⟩:=hs
  exact False.elim q
 |cont=>
  obtain⟨_,_,_,q⟩:=hs
  exact False.elim q
section
variable {X:Cx}{x:Str}{p pos:Pos}{e:Expr}{es:List Expr}{t:TA}{id T:String}{r:List V->Hp->VK->Prop}
def DG(r:List V->Hp->VK->Prop)(t:TA):TE:=fun σ H Q=>t σ H fun vs H1=>r vs H1 Q
theorem au(hc:fu X (.builtin id) r)(hg:Gl X x)(hm:X.mg x=none)(hv:bootBuiltins x=some (.builtin id))(ha:PA X (e::es) t)(hn:x≠"__name__":=by decide)(hdb:(x==("__debug__":Str))=false:=by decide)
  (he:starEach (e::es) X.env=(false,eval e X.env)::starEach es X.env:=by rfl) (hpl:(backTo pos (starEach es X.env)).any (·.1)=false:=by rfl):PE X (.Call (.Name x p) (e::es) [] pos) (DG r t):=by
 intro pins s σ H Q I h
 refine wpAny_Call_Name_kw (dG I hg hm hv ?_ hn hdb)
 exact PyProof.Rows.callWith_builtin1 (bx (ha pos pins s σ H _ I h) fun us s1 ⟨vs,H1,I1,r1,q1⟩=>hc pins s1 σ H1 vs us Q I1 r1 q1) he hpl
theorem dI(hc:fu X (.type T) r)(hg:Gl X x)(hm:X.mg x=none)(hv:bootBuiltins x=some (.type T))(ha:PA X (e::es) t)(hn:x≠"__name__":=by decide)(hdb:(x==("__debug__":Str))=false:=by decide)
  (he:starEach (e::es) X.env=(false,eval e X.env)::starEach es X.env:=by rfl) (hpl:(backTo pos (starEach es X.env)).any (·.1)=false:=by rfl):PE X (.Call (.Name x p) (e::es) [] pos) (DG r t):=by
 intro pins s σ H Q I h
 refine wpAny_Call_Name_kw (dG I hg hm hv ?_ hn hdb)
 exact PyProof.Rows.callWith_type1 (bx (ha pos pins s σ H _ I h) fun us s1 ⟨vs,H1,I1,r1,q1⟩=>hc pins s1 σ H1 vs us Q I1 r1 q1) he hpl
end
end L2
namespace HT
open PySem PyProof.Rows
section
open PySem.SeqAt
open PySem.AutoSeq1 (wpAny_loadPart')
open PySem.MeetsSeq PySem.MeetsSeq2 PySem.MeetsSeq3
end
section
variable {prog:Program}{w:World}{A:Around}{E:Value->Shared->Prop}{s:Shared}
theorem cat_tup{t b:Addr}{vs ws:List Value}{Q:Value->Shared->Prop}(ht:IsTup s.heap t vs.toArray)(hb:IsTup s.heap b ws.toArray)(hv:vs≠[])
  (h1:ws=[]->Q (.ref t) s) (h2:ws≠[]->Q (.ref s.heap.objs.size) {s with heap:=s.heap.push {cls:=.type "tuple",data:=.seq (vs++ws).toArray} })
  (hsz:vs.length+ws.length<=sizeLine):wpAny (model prog w) A (binaryOp .Add (.ref t) (.ref b)) Q E s:=by
 obtain⟨⟨cls,dd,data,sl⟩,ho,hc,n,hd⟩:=id ht
 obtain⟨⟨cls2,dd2,data2,sl2⟩,ho2,hc2,n2,hd2⟩:=id hb
 simp only at hc hd hc2 hd2
 subst hc hd hc2 hd2
 have e:vs.toArray++ws.toArray=(vs++ws).toArray:=by simp
 by_cases hw:ws=[]
 ·exact concat_meets ⟨_,ho,rfl⟩ ⟨_,ho2,rfl⟩ noFill_tuple_add seq_tuple_add PySem.F.slot_tuple_add PySem.F.entry_tuple_add (PySem.F.args_tuple_add_2 _ _)
   (tuple_addW1 t b vs.toArray ws.toArray n n2 dd dd2 sl sl2 (by simpa using hv) (by simp[hw])) ⟨ho,ho2,h1 hw⟩
 ·refine concat_meets ⟨_,ho,rfl⟩ ⟨_,ho2,rfl⟩ noFill_tuple_add seq_tuple_add PySem.F.slot_tuple_add PySem.F.entry_tuple_add (PySem.F.args_tuple_add_2 _ _)
   (tuple_addW2 t b vs.toArray ws.toArray n n2 dd dd2 sl sl2 (by simpa using hv) (by simpa using hw) (by rw[FY,FY];exact hsz)) ⟨ho,ho2,?_⟩
  rw[e]
  exact h2 hw
def sIx(n d:Nat):Option Int->Nat
 |none=>d
 |some v=>if v<0 then(v+(n:Int)).toNat else min v.toNat n
theorem sIx_none(n d:Nat):sIx n d none=d:=rfl
theorem sIx_nat(n d k:Nat):sIx n d (some (k:Int))=min k n:=by
 show(if(k:Int)<0 then((k:Int)+(n:Int)).toNat else min (k:Int).toNat n)=min k n
 rw[if_neg (by omega),F0]
theorem sIx_le(n d:Nat)(hd:d<=n)(o:Option Int):sIx n d o<=n:=by
 cases o with
 |none=>exact hd
 |some v=>
  show(if v<0 then(v+(n:Int)).toNat else min v.toNat n)<=n
  by_cases hv:v<0
  ·rw[if_pos hv];omega
  ·rw[if_neg hv];exact Nat.min_le_right _ _
theorem uY(v:Int)(n d:Nat):(if v<0 then max (v+(n:Int)) 0 else min v (n:Int))=((sIx n d (some v):Nat):Int):=by
 show(if v<0 then max (v+(n:Int)) 0 else min v (n:Int))=(((if v<0 then(v+(n:Int)).toNat else min v.toNat n):Nat):Int)
 by_cases hv:v<0
 ·simp only[if_pos hv];omega
 ·simp only[if_neg hv];omega
theorem s_(lo hi:Option Int)(n:Nat):Builtin.Slice.sliceAdjust lo hi 1 (n:Int)=(((sIx n 0 lo:Nat):Int),((sIx n n hi:Nat):Int)):=by
 have h1:¬ ((1:Int)<0):=by omega
 unfold Builtin.Slice.sliceAdjust
 simp only[h1,if_false]
 refine Prod.ext ?_ ?_
 ·cases lo with
  |none=>rfl
  |some v=>exact uY v n 0
 ·cases hi with
  |none=>rfl
  |some v=>exact uY v n n
theorem sX(i j:Nat):Builtin.Slice.slicePlaces (i:Int) (j:Int) 1=j-i:=by
 unfold Builtin.Slice.slicePlaces
 have h1:(1:Int)>0:=by omega
 simp only[h1,if_true,Int.ediv_one]
 split<;>omega
theorem mL{v:Value}{o:Option Int}{Q:Option Int->Shared->Prop}(p:IsPart v o)(h:Q o s):wpAny (model prog w) A (Builtin.Slice.slicePartIndex v) Q E s:=by
 cases p with
 |none=>exact slicePart_none h
 |int i t=>exact slicePart_int h
theorem fW{sl:Addr}{vl vu:Value}{lo hi:Option Int}{n:Nat}{Q:Int×Int×Nat->Shared->Prop}(hs:s.heap.IsSliceOf sl vl vu .none)(pl:IsPart vl lo)(pu:IsPart vu hi)
  (h:Q (((sIx n 0 lo:Nat):Int),1,sIx n n hi-sIx n 0 lo) s):wpAny (model prog w) A (Builtin.Slice.sliceApplied (.ref sl) (pure (n:Int))) Q E s:=by
 obtain⟨os,hos,hcs,hds⟩:=id hs
 unfold Builtin.Slice.sliceApplied Builtin.Slice.sliceFields
 refine wpAny_bind (wpAny_bind (wpAny_field hos hds (x:=vl) rfl (wpAny_bind (wpAny_field hos hds (x:=vu) rfl (wpAny_bind (wpAny_field hos hds (x:=.none) rfl (wpAny_pure ?_)))))))
 refine wpAny_bind (slicePart_none ?_)
 show wpAny _ _ (if((1:Int)==0)=true then _ else _) _ _ s
 rw[if_neg (by decide)]
 refine wpAny_bind (mL pl (wpAny_bind (mL pu (wpAny_bind (wpAny_pure ?_)))))
 show wpAny _ _ (match Builtin.Slice.sliceAdjust lo hi 1 (n:Int) with | (lo,hi)=>pure (lo,(1:Int),Builtin.Slice.slicePlaces lo hi 1)) _ _ s
 rw[s_ lo hi n]
 show wpAny _ _ (pure (((sIx n 0 lo:Nat):Int),(1:Int),Builtin.Slice.slicePlaces ((sIx n 0 lo:Nat):Int) ((sIx n n hi:Nat):Int) 1)) _ _ s
 rw[sX]
 exact wpAny_pure h
theorem xw(xs:Array Value)(i k:Nat):((List.range k).filterMap fun(m:Nat)=>xs[((i:Int)+(m:Int)*1).toNat]?).toArray=((xs.toList.drop i).take k).toArray:=by
 have e:(fun(m:Nat)=>xs[((i:Int)+(m:Int)*1).toNat]?)=fun m=>xs[i+m]?:=by
  funext m
  have:((i:Int)+(m:Int)*1).toNat=i+m:=by omega
  rw[this]
 rw[e]
 have:=pick_run xs i k
 rw[List.filterMap_map]at this
 have e2:((fun x=>xs[x]?)∘fun x=>i+x)=fun m=>xs[i+m]?:=rfl
 rw[e2]at this
 rw[this]
theorem getItem_tuple_cut{t sl:Addr}{items:Array Value}{vl vu:Value}{lo hi:Option Int}{Q:Value->Shared->Prop}(ht:IsTup s.heap t items)(hs:s.heap.IsSliceOf sl vl vu .none)(pl:IsPart vl lo)(pu:IsPart vu hi)
  (hw:¬ (sIx items.size 0 lo=0/\sIx items.size items.size hi=items.size))
  (h:Q (.ref s.heap.objs.size) {s with heap:=s.heap.push {cls:=.type "tuple",data:=.seq ((items.toList.drop (sIx items.size 0 lo)).take (sIx items.size items.size hi-sIx items.size 0 lo)).toArray} })
  (hsz:items.size<=sizeLine):wpAny (model prog w) A (getItem (.ref t) (.ref sl)) Q E s:=by
 have htake:sizeOk (.seq ((items.toList.drop (sIx items.size 0 lo)).take (sIx items.size items.size hi-sIx items.size 0 lo)).toArray):=by
  show((items.toList.drop (sIx items.size 0 lo)).take (sIx items.size items.size hi-sIx items.size 0 lo)).toArray.size<=sizeLine
  rw[FY,Gw,Gx,Array.length_toList]
  omega
 have hj:sIx items.size items.size hi<=items.size:=sIx_le _ _ (Gc _) hi
 obtain⟨os,hos,hcs,hds⟩:=id hs
 have hTs:s.TypeIs (.ref sl) "slice":=⟨os,hos,hcs⟩
 unfold getItem
 try with_reducible refine wpAny_holding ?_
 first | refine wpAny_bind (wpAny_pure ?_) | skip
 refine wpAny_bind (wpAny_sequenceKey ht.typeIs (by decide) ?_)
 refine wpAny_bind (wpAny_callSpecial?_slot (name:=Str.ofString "__getitem__") ht.typeIs PyProof.Rows.slot_tuple_getitem
  (wpAny_call_entry PyProof.Rows.slot_tuple_getitem ht.typeIs entry_tuple_getitem ?_ (args_tuple_getitem _ _)))
 show wpAny _ _ (Builtin.Tuple.tupleItemsOf (.ref t) >>= _) _ _ s
 refine wpAny_bind (tupleItemsOf_ ht ?_)
 refine wpAny_bind (wpAny_typeOf hTs ?_)
 rw[if_pos (by decide)]
 refine wpAny_bind (fW hs pl pu ?_)
 have hno:¬ ((((sIx items.size 0 lo:Nat):Int)==0&&(1:Int)==1&&(sIx items.size items.size hi-sIx items.size 0 lo)==items.size)=true):=by
  intro q
  rw[Bool.and_eq_true,Bool.and_eq_true]at q
  have q1:((sIx items.size 0 lo:Nat):Int)=0:=eq_of_beq q.1.1
  have q2:sIx items.size items.size hi-sIx items.size 0 lo=items.size:=eq_of_beq q.2
  exact hw ⟨by omega,by omega⟩
 show wpAny _ _ (if(((sIx items.size 0 lo:Nat):Int)==0&&(1:Int)==1&&(sIx items.size items.size hi-sIx items.size 0 lo)==items.size)=true then _ else _) _ _ s
 rw[if_neg hno,xw]
 first
  |exact wpAny_bind (m:=Builtin.Tuple.tupleExact _) (wpAny_newObj_type (wpAny_pure ⟨_,rfl,wpAny_pure h⟩) htake)
  |exact wpAny_bind (m:=Builtin.Tuple.tupleExact _) (wpAny_newObj_type (wpAny_bind (wpAny_pure (wpAny_pure ⟨_,rfl,wpAny_pure h⟩))) htake)
  |exact wpAny_bind (wpAny_bind (m:=Builtin.Tuple.tupleExact _) (wpAny_newObj_type (wpAny_pure (wpAny_pure ⟨_,rfl,wpAny_pure h⟩)) htake))
  |exact wpAny_bind (wpAny_bind (m:=Builtin.Tuple.tupleExact _) (wpAny_newObj_type (wpAny_pure ⟨_,rfl,wpAny_pure h⟩) htake))
end
end HT
namespace L2
open PySem PySem.Spec PyProof.Rows
abbrev TO:=St->Hp->(Option Int->Hp->Prop)->Prop
def PO(X:Cx)(e:Option Expr)(t:TO):Prop:=
 ∀(pins:List (Addr×Obj)) (s:Shared) (σ:St) (H:Hp) (Q:Option Int->Hp->Prop),aH X pins σ H s->t σ H Q ->
  wpAny (model X.prog X.w) X.A (evalPart e X.env) (fun u s'=>∃o H',aH X pins σ H' s'/\IsPart u o/\Q o H') X.xe s
def uX:TO:=fun _ H Q=>Q none H
def Ae(t:TE):TO:=fun σ H Q=>t σ H fun x H1=>∃i,x=.int i/\Q (some i) H1
section
variable {X:Cx}{e:Expr}{te:TE}{lo hi:Option Expr}{tl th:TO}{pos p2:Pos}
theorem bV:PO X none uX:=by
 intro pins s σ H Q I h
 rw[evalPart_none]
 exact wpAny_pure ⟨none,H,I,.none,h⟩
theorem bT(h:PE X e te):PO X (some e) (Ae te):=by
 intro pins s σ H Q I hw
 rw[evalPart_some]
 refine bx (h pins s σ H _ I hw) fun u s1 ⟨x,H1,I1,r1,q1⟩=>?_
 obtain⟨i,rfl,q⟩:=q1
 obtain⟨t,rfl⟩:=r1
 exact⟨some i,H1,I1,.int i t,q⟩
def B7(X:Cx)(r:V->Option Int->Option Int->Hp->VK->Prop):Prop:=
 ∀(pins:List (Addr×Obj)) (s:Shared) (σ:St) (H:Hp) (x:V) (v vl vu:Value) (lo hi:Option Int) (sl:Addr) (Q:VK),aH X pins σ H s->aY x v->s.heap.IsSliceOf sl vl vu .none->IsPart vl lo->IsPart vu hi->r x lo hi H Q ->
  ∃T id,typeLookup (.type T) "__getitem__"=pure (some (.builtin id))/\s.TypeIs v T/\wpAny (model X.prog X.w) X.A (getItem v (.ref sl)) (EP X pins σ Q) X.xe s
def DZ(r:V->Option Int->Option Int->Hp->VK->Prop)(te:TE)(tl th:TO):TE:=fun σ H Q=>te σ H fun x H1=>tl σ H1 fun l H2=>th σ H2 fun u H3=>r x l u H3 Q
theorem bH{r:V->Option Int->Option Int->Hp->VK->Prop}(hr:B7 X r)(he:PE X e te)(hl:PO X lo tl)(hu:PO X hi th):PE X (.Subscript e (.Slice lo hi none p2) pos) (DZ r te tl th):=by
 intro pins s σ H Q I h
 refine Subscript_ (bx (he pins s σ H _ I h) fun v s1 ⟨x,H1,I1,r1,q1⟩=>?_)
 refine wpAny_Slice (bx (hl pins s1 σ H1 _ I1 q1) fun vl s2 ⟨l,H2,I2,pl,q2⟩=>bx (hu pins s2 σ H2 _ I2 q2) fun vu s3 ⟨u,H3,I3,pu,q3⟩=>?_)
 rw[evalPart_none]
 refine wpAny_pure ?_
 have I4:aH X pins σ H3 {s3 with heap:=s3.heap.push {cls:=.type "slice",data:=.fields #[vl,vu,.none]} }:=I3.kept (t':=s3.toks) fun b ob q=>FR _ q
 obtain⟨T,id,hT,ht,hg⟩:=hr pins {s3 with heap:=s3.heap.push {cls:=.type "slice",data:=.fields #[vl,vu,.none]} } σ H3 x v vl vu l u s3.heap.objs.size Q I4 r1 (Heap.IsSliceOf.new ..) pl pu q3
 show wpAny (model X.prog X.w) X.A (subscriptTail e (.Slice lo hi none p2) v (.ref s3.heap.objs.size)) (EP X pins σ Q) X.xe {s3 with heap:=s3.heap.push {cls:=.type "slice",data:=.fields #[vl,vu,.none]} }
 exact tail_any (ops:=[.ref s3.heap.objs.size,v]) ht hT hg (by with_unfolding_all rfl)
def dz(xs:List V)(lo hi:Option Int):List V:=(xs.drop (HT.sIx xs.length 0 lo)).take (HT.sIx xs.length xs.length hi-HT.sIx xs.length 0 lo)
theorem iE(xs:List V)(lo hi:Option Int):(dz xs lo hi).length<=xs.length:=by
 unfold dz
 rw[Gw,Gx]
 omega
def BX(K:PySem.W.Frag):V->Option Int->Option Int->Hp->VK->Prop:=fun x lo hi H Q=>∃a xs,x=.ref a/\bq K H a xs /\
 ¬ (HT.sIx xs.length 0 lo=0/\HT.sIx xs.length xs.length hi=xs.length)/\∀p,H p=none->Q (.ref p) (ap H p (.tup (dz xs lo hi)))
theorem kE:B7 X (BX X.K):=by
 intro pins s σ H x v vl vu lo hi sl Q I rx hs pl pu h
 obtain⟨a,xs,rfl,hx,hw,q⟩:=h
 cases rx
 obtain⟨its,r,ht,hz⟩:=I.tuple hx
 have hlen:its.toArray.size=xs.length:=by rw[FY];exact r.length.symm
 refine⟨"tuple",_,PyProof.Rows.slot_tuple_getitem.lookup,ht.typeIs,?_⟩
 refine HT.getItem_tuple_cut ht hs pl pu (by rw[hlen];exact hw) ?_ (by rw[hlen];exact hz)
 rw[hlen]
 refine⟨.ref s.heap.objs.size,_,I.laid (t':=s.toks) (o:=.tup (dz xs lo hi)) (fun b ob q=>FR _ q) (Gc _) ?_,rfl,q _ (I.hok.fresh (Gc _))⟩
 exact⟨Gn (iE xs lo hi) hz,_,(r.drop (HT.sIx xs.length 0 lo)).take (HT.sIx xs.length xs.length hi-HT.sIx xs.length 0 lo),IsTup.new _ _⟩
def yz(K:PySem.W.Frag):R2:=fun x y H Q=>∃a b xs ys,x=.ref a/\y=.ref b/\bq K H a xs/\bq K H b ys/\xs≠[]/\xs.length+ys.length<=sizeLine /\
 (ys=[]->Q (.ref a) H)/\(ys≠[]->∀p,H p=none->Q (.ref p) (ap H p (.tup (xs++ys))))
theorem aS.nil_iff{xs:List V}{us:List Value}(r:aS xs us):us=[]↔xs=[]:=by
 cases r with
 |nil=>simp
 |cons _ _=>simp
theorem bP:jN X (binaryOp .Add) (yz X.K):=by
 intro pins s σ H x y v u Q I rx ry h
 obtain⟨a,b,xs,ys,rfl,rfl,ha,hb,hx,hz,q1,q2⟩:=h
 cases rx
 cases ry
 obtain⟨its,r1,p1,_⟩:=I.tuple ha
 obtain⟨its2,r2,p2,_⟩:=I.tuple hb
 refine HT.cat_tup p1 p2 (fun z=>hx (r1.nil_iff.mp z)) (fun z=>⟨.ref a,H,I,rfl,q1 (r2.nil_iff.mp z)⟩) (fun z=>?_) (by rw[<- r1.length,<- r2.length];exact hz)
 refine⟨.ref s.heap.objs.size,_,I.laid (t':=s.toks) (o:=.tup (xs++ys)) (fun b ob q=>FR _ q) (Gc _) ?_,rfl,q2 (fun w=>z (r2.nil_iff.mpr w)) _ (I.hok.fresh (Gc _))⟩
 exact⟨by rw[Gb];exact hz,_,r1.append r2,IsTup.new _ _⟩
end
def zd(n:Nat)(i:Int):Option Nat:=if 0<=i then(if i<n then some i.toNat else none) else if -(n:Int)<=i then some (i+n).toNat else none
def hZ{α:Type}(xs:List α)(i:Int):Option α:=(zd xs.length i).bind fun j=>xs[j]?
theorem va{n:Nat}{i:Int}{j:Nat}(h:zd n i=some j):seqIndex? i n=some j/\j<n/\-(n:Int)<=i/\i<n:=by
 unfold zd at h
 by_cases h0:0<=i
 ·rw[if_pos h0]at h
  by_cases h1:i<n
  ·rw[if_pos h1]at h
   have e:i.toNat=j:=Option.some.inj h
   exact⟨by rw[seqIndex_of h0 h1,e],by omega,by omega,h1⟩
  ·rw[if_neg h1]at h;cases h
 ·rw[if_neg h0]at h
  by_cases h1:-(n:Int)<=i
  ·rw[if_pos h1]at h
   have e:(i+n).toNat=j:=Option.some.inj h
   exact⟨by rw[seqIndex_neg (by omega) h1,e],by omega,h1,by omega⟩
  ·rw[if_neg h1]at h;cases h
theorem pJ{α:Type}{xs:List α}{i:Int}{v:α}(h:hZ xs i=some v):∃j,seqIndex? i xs.length=some j/\xs[j]?=some v/\j<xs.length/\-(xs.length:Int)<=i/\i<xs.length:=by
 unfold hZ at h
 cases e:zd xs.length i with
 |none=>rw[e]at h;cases h
 |some j=>
  rw[e]at h
  obtain⟨h1,h2,h3,h4⟩:=va e
  exact⟨j,h1,h,h2,h3,h4⟩
theorem aV{α:Type}{xs:List α}{j:Nat}{v:α}(h:xs[j]?=some v):hZ xs (j:Int)=some v:=by
 have hj:j<xs.length:=(FQ.mp h).1
 have e:zd xs.length (j:Int)=some j:=by
  unfold zd
  rw[if_pos (by omega),if_pos (by omega)];simp
 unfold hZ;rw[e];exact h
def uL(b:Expr):Prop:=∀o i,subscripted b false o i=operate [o,i] (getItem o i)
def Bo(X:Cx)(r:R2):Prop:=
 ∀(value slice:Expr) (pins:List (Addr×Obj)) (s:Shared) (σ:St) (H:Hp) (x y:V) (v u:Value) (Q:VK),aH X pins σ H s->aY x v->aY y u->r x y H Q ->
  subscripted slice false v u=operate [v,u] (getItem v u)->wpAny (model X.prog X.w) X.A (subscriptTail value slice v u) (EP X pins σ Q) X.xe s
def AF(X:Cx)(id:String)(r:V->List V->Hp->VK->Prop):Prop:=
 ∀(pins:List (Addr×Obj)) (s:Shared) (σ:St) (H:Hp) (x:V) (xs:List V) (v:Value) (us:List Value) (Q:VK),aH X pins σ H s->aY x v->aS xs us->r x xs H Q ->
  wpAny (model X.prog X.w) X.A (call (.builtin id) (v::us)) (EP X pins σ Q) X.xe s
section
variable {X:Cx}{a b:Expr}{ta tb:TE}{pos:Pos}
theorem aC{r:R2}(hr:Bo X r)(ha:PE X a ta)(hb:PE X b tb)(hs:uL b):PE X (.Subscript a b pos) (AR r ta tb):=by
 intro pins s σ H Q I h
 exact Subscript_ (AL ha hb I h fun v u s2 x y H2 I2 rx ry q=>hr a b pins s2 σ H2 x y v u Q I2 rx ry q (hs _ _))
def wH(K:PySem.W.Frag):R2:=fun x y H Q=>∃p xs i v,x=.ref p/\y=.int i/\aT K H p xs/\hZ xs i=some v/\Q v H
def wj(K:PySem.W.Frag):R2:=fun x y H Q=>∃p xs i v,x=.ref p/\y=.int i/\bq K H p xs/\hZ xs i=some v/\Q v H
def BI:R2:=fun x y H Q=>∃z i c,x=.str z/\y=.int i/\z.length<=sizeLine/\hZ z.cps.toList i=some c/\Q (.str ⟨#[c]⟩) H
theorem bc:Bo X (wH X.K):=by
 intro value slice pins s σ H x y v u Q I rx ry h hs
 obtain⟨p,xs,i,z,rfl,rfl,hq,he,q⟩:=h
 cases rx
 obtain⟨t,rfl⟩:=ry
 obtain⟨its,r,pl,hz⟩:=I.list hq
 obtain⟨j,h1,h2,h3,h4,h5⟩:=pJ he
 obtain⟨w,ew,rw'⟩:=r.get h2
 have hl:=r.length
 have hn:=k_
 have fin:EP X pins σ Q w s:=⟨z,H,I,rw',q⟩
 by_cases h0:0<=i
 ·have hj:i.toNat=j:=by
   rw[seqIndex_of h0 h5]at h1
   exact Option.some.inj h1
  exact item_listR pl.isList h0 (by omega) (by rw[hj];simpa using ew) fin hs
 ·have hj:(i+(its.toArray.size:Int)).toNat=j:=by
   rw[seqIndex_neg (by omega) h4]at h1
   rw[FY,<- hl]
   exact Option.some.inj h1
  exact subscriptTail_builtinR (x:=w) pl.isList.typeIs slot_list_getitem.lookup
   (wpAny_getItem_list_neg (Q:=fun r s'=>r=w/\EP X pins σ Q r s') pl.isList (by omega) (by rw[FY]<;>omega) (by omega) (by rw[hj];simpa using ew) ⟨rfl,fin⟩) hs
theorem aN:Bo X (wj X.K):=by
 intro value slice pins s σ H x y v u Q I rx ry h hs
 obtain⟨p,xs,i,z,rfl,rfl,hq,he,q⟩:=h
 cases rx
 obtain⟨t,rfl⟩:=ry
 obtain⟨its,r,pl,hz⟩:=I.tuple hq
 obtain⟨j,h1,h2,h3,h4,h5⟩:=pJ he
 obtain⟨w,ew,rw'⟩:=r.get h2
 have hl:=r.length
 have hn:=k_
 have fin:EP X pins σ Q w s:=⟨z,H,I,rw',q⟩
 exact subscriptTail_builtinR (x:=w) pl.typeIs slot_tuple_getitem.lookup
  (getItem_tuple (j:=j) (Q:=fun r s'=>r=w/\EP X pins σ Q r s') pl (by omega) (by omega) (by rw[FY,<- hl];exact h1) (by simpa using ew) ⟨rfl,fin⟩) hs
theorem nj:Bo X BI:=by
 intro value slice pins s σ H x y v u Q I rx ry h hs
 obtain⟨z,i,c,rfl,rfl,hz,he,q⟩:=h
 obtain⟨t,rfl⟩:=rx
 obtain⟨t',rfl⟩:=ry
 obtain⟨j,h1,h2,h3,h4,h5⟩:=pJ he
 have hl:z.cps.toList.length=z.length:=by simp[Str.length]
 rw[hl]at h1 h4 h5
 have hn:=k_
 exact tail_any (typeIs_str s z t) slot_str_getitem.lookup (getItem_str (c:=c) (by
  have e1:decide (i < -(2 ^ 63:Int))=false:=decide_eq_false (by omega)
  have e2:decide (i≥2 ^ 63)=false:=decide_eq_false (by omega)
  rw[e1,e2,Bool.or_false]) (by rw[h1];simpa using h2) ⟨.str ⟨#[c]⟩,H,I.tok _,⟨_,rfl⟩,q⟩) hs
theorem ut(its:List Value)(n j:Nat)(u:Value):Obj.mapSeq (·.setIfInBounds j u) {cls:=.type "list",data:=.seq its.toArray n}={cls:=.type "list",data:=.seq (its.set j u).toArray n}:=by
 simp[Obj.mapSeq]
theorem aH.lst{pins:List (Addr×Obj)}{σ:St}{H:Hp}{s:Shared}{p:Addr}{xs:List V}(I:aH X pins σ H s)(h:H p=some (.lst xs)) :
  ∃(its:List Value) (n:Nat),aS xs its/\s.heap.get? p=some {cls:=.type "list",data:=.seq its.toArray n}/\xs.length<=sizeLine:=by
 obtain⟨z,its,n,r,e⟩:=I.hok p _ h
 exact⟨its,n,r,e,z⟩
theorem aH.lstUpd{pins:List (Addr×Obj)}{σ:St}{H:Hp}{s:Shared}{p:Addr}{xs ys:List V}{its its':List Value}{n n':Nat}{f:Obj->Obj}(I:aH X pins σ H s)(h:H p=some (.lst xs))
  (ho:s.heap.get? p=some {cls:=.type "list",data:=.seq its.toArray n}) (hf:f {cls:=.type "list",data:=.seq its.toArray n}={cls:=.type "list",data:=.seq its'.toArray n' }) (r:aS ys its') (hz:ys.length<=sizeLine) (t:Nat) :
  aH X pins σ (ap H p (.lst ys)) {s with heap:=s.heap.update p f,toks:=t}:=by
 have e:(s.heap.update p f).get? p=some {cls:=.type "list",data:=.seq its'.toArray n' }:=by
  rw[F1 f ho (by rw[hf]<;>rfl),hf]
 refine I.write (x:=p) (e:=p) (by rw[h];trivial) (.inl rfl) (fun b u hb q=>(FW _ _ (Ne.symm hb)).trans q) ⟨_,e⟩ ?_
 exact⟨hz,its',n',r,e⟩
def zS:V->V->V->Hp->(Hp->Prop)->Prop:=fun o i v H Q=>∃p xs k j,o=.ref p/\i=.int k/\H p=some (.lst xs)/\zd xs.length k=some j/\Q (ap H p (.lst (xs.set j v)))
theorem xo:Bs X zS:=by
 intro pins s σ H o i v ov iv u Q I ro ri rv h
 obtain⟨p,xs,k,j,rfl,rfl,hp,hj,q⟩:=h
 cases ro
 obtain⟨t,rfl⟩:=ri
 obtain⟨its,n,r,ho,hz⟩:=I.lst hp
 obtain⟨h1,h2,h3,h4⟩:=va hj
 have hl:=r.length
 have hn:=k_
 have I':aH X pins σ (ap H p (.lst (xs.set j v))) {s with heap:=s.heap.update p (Obj.mapSeq (·.setIfInBounds j u))}:=
  I.lstUpd hp ho (ut its n j u) (r.set rv j) (by rw[GF];exact hz) s.toks
 by_cases h0:0<=k
 ·have hk:k.toNat=j:=by
   rw[seqIndex_of h0 h4]at h1
   exact Option.some.inj h1
  exact PySem.W.ki_setAt ho h0 (by omega) (by rw[FY,<- hl];exact h4) (by rw[hk];exact⟨_,I',q⟩)
 ·have hk:(k+(its.toArray.size:Int)).toNat=j:=by
   rw[seqIndex_neg (by omega) h3]at h1
   rw[FY,<- hl]
   exact Option.some.inj h1
  exact PySem.W.ki_setBack ho (by omega) (by rw[FY,<- hl];exact h3) (by omega) (by rw[hk];exact⟨_,I',q⟩)
theorem qz(lo hi:Option Int)(n:Nat):(sliceBounds lo hi none n).1=((HT.sIx n 0 lo:Nat):Int)/\(sliceBounds lo hi none n).2.1=((HT.sIx n n hi:Nat):Int)/\(sliceBounds lo hi none n).2.2=1:=by
 refine⟨?_,?_,rfl⟩
 ·cases lo with
  |none=>simp[sliceBounds,HT.sIx]
  |some i=>
   simp only[sliceBounds,HT.sIx,Option.getD_none,show(1:Int)>0 by decide,if_true]
   by_cases h:i<0
   ·simp only[h,if_true]<;>omega
   ·simp only[h,if_false]<;>omega
 ·cases hi with
  |none=>simp[sliceBounds,HT.sIx]
  |some i=>
   simp only[sliceBounds,HT.sIx,Option.getD_none,show(1:Int)>0 by decide,if_true]
   by_cases h:i<0
   ·simp only[h,if_true]<;>omega
   ·simp only[h,if_false]<;>omega
theorem nW(its:List Value)(lo hi:Option Int):slicePick its.toArray lo hi none=((its.drop (HT.sIx its.length 0 lo)).take (HT.sIx its.length its.length hi-HT.sIx its.length 0 lo)).toArray:=by
 obtain⟨h1,h2,h3⟩:=qz lo hi its.toArray.size
 unfold slicePick
 rw[h1,h2,h3]
 simp only[sliceRange_one,pick_run,FY]<;>rfl
def DE(K:PySem.W.Frag):V->Option Int->Option Int->Hp->VK->Prop:=fun x lo hi H Q=>∃a xs,x=.ref a/\aT K H a xs/\∀p,H p=none->Q (.ref p) (ap H p (.lst (dz xs lo hi)))
theorem Cc:B7 X (DE X.K):=by
 intro pins s σ H x v vl vu lo hi sl Q I rx hs pl pu h
 obtain⟨a,xs,rfl,hx,q⟩:=h
 cases rx
 obtain⟨its,r,ht,hz⟩:=I.list hx
 have hlen:=r.length
 refine⟨"list",_,slot_list_getitem.lookup,ht.isList.typeIs,?_⟩
 refine wpAny_getItem_list_slice ht.isList hs pl pu .none (by simp) ?_ (by rw[FY]<;>omega)
 rw[nW,<- hlen]
 refine⟨.ref s.heap.objs.size,_,I.laid (t':=s.toks) (o:=.lst (dz xs lo hi)) (fun b ob q=>FR _ q) (Gc _) ?_,rfl,q _ (I.hok.fresh (Gc _))⟩
 exact⟨Gn (iE xs lo hi) hz,_,0,(r.drop (HT.sIx xs.length 0 lo)).take (HT.sIx xs.length xs.length hi-HT.sIx xs.length 0 lo),FX _ rfl⟩
def oK:V->Bool
 | .non=>true
 | .bl _=>true
 | .int _=>true
 | .str _=>true
 |_=>false
def sH:V->V->Bool
 | .non,.non=>true
 | .bl a,.bl b=>a==b
 | .bl a,.int b=>(if a then 1 else 0)==b
 | .int a,.bl b=>a==(if b then 1 else 0)
 | .int a,.int b=>a==b
 | .str a,.str b=>a==b
 |_,_=>false
theorem gp{A:Around}{s:Shared}{y x:V}{u v:Value}(ry:aY y u)(rx:aY x v)(fy:oK y=true)(fx:oK x=true):SeqAt.EqAt A s u v (sH y x):=by
 cases y with
 |non=>
  cases ry
  cases x with
  |non=>cases rx;exact SeqAt.EqAt.same _
  |bl b=>cases rx;exact SeqAt.EqAt.none_bool b
  |int b=>obtain⟨t,rfl⟩:=rx;exact SeqAt.EqAt.none_int b t
  |str b=>obtain⟨t,rfl⟩:=rx;exact SeqAt.EqAt.none_str b t
  |_=>exact absurd (show false=true from fx) Gf
 |bl a=>
  cases ry
  cases x with
  |non=>cases rx;exact SeqAt.EqAt.bool_none a
  |bl b=>cases rx;exact SeqAt.EqAt.bool_bool a b
  |int b=>obtain⟨t,rfl⟩:=rx;exact SeqAt.EqAt.bool_int a b t
  |str b=>obtain⟨t,rfl⟩:=rx;exact SeqAt.EqAt.bool_str a b t
  |_=>exact absurd (show false=true from fx) Gf
 |int a=>
  obtain⟨t',rfl⟩:=ry
  cases x with
  |non=>cases rx;exact SeqAt.EqAt.int_none a t'
  |bl b=>cases rx;exact SeqAt.EqAt.int_bool a t' b
  |int b=>obtain⟨t,rfl⟩:=rx;exact SeqAt.EqAt.int_int a t' b t
  |str b=>obtain⟨t,rfl⟩:=rx;exact SeqAt.EqAt.int_str a t' b t
  |_=>exact absurd (show false=true from fx) Gf
 |str a=>
  obtain⟨t',rfl⟩:=ry
  cases x with
  |non=>cases rx;exact SeqAt.EqAt.str_none a t'
  |bl b=>cases rx;exact SeqAt.EqAt.str_bool a t' b
  |int b=>obtain⟨t,rfl⟩:=rx;exact SeqAt.EqAt.str_int a t' b t
  |str b=>obtain⟨t,rfl⟩:=rx;exact SeqAt.EqAt.str_str a t' b t
  |_=>exact absurd (show false=true from fx) Gf
 |_=>exact absurd (show false=true from fy) Gf
theorem ke:fu X (.builtin "len") (fun xs H Q=>∃p ys,xs=[.ref p]/\(aT X.K H p ys\/bq X.K H p ys)/\Q (.int ys.length) H):=by
 intro pins s σ H xs us Q I r h
 obtain⟨p,ys,rfl,hq,q⟩:=h
 obtain⟨u,rfl,rx⟩:=oQ r
 cases rx
 have hn:=k_
 rcases hq with hq | hq
 ·obtain⟨its,r',pl,hz⟩:=I.list hq
  have hlen:=r'.length
  exact Calls.call_len_list pl.isList (by simp only[FY]<;>omega) ⟨.int ys.length,H,I.tok _,⟨s.toks+1,by rw[FY,hlen]⟩,q⟩
 ·obtain⟨its,r',pl,hz⟩:=I.tuple hq
  have hlen:=r'.length
  exact len_tuple pl (by simp only[FY]<;>omega) ⟨.int ys.length,H,I.tok _,⟨s.toks+1,by rw[FY,hlen]⟩,q⟩
theorem bo:fu X (.builtin "len") (fun xs H Q=>∃z,xs=[.str z]/\z.length<=sizeLine/\Q (.int z.length) H):=by
 intro pins s σ H xs us Q I r h
 obtain⟨z,rfl,hz,q⟩:=h
 obtain⟨u,rfl,t,rfl⟩:=oQ r
 have hn:=k_
 exact len_str (by omega) ⟨.int z.length,H,I.tok _,⟨_,rfl⟩,q⟩
theorem kn:fu X (.type "list") (fun xs H Q=>∃p ys,xs=[.ref p]/\(aT X.K H p ys\/bq X.K H p ys)/\∀l,H l=none->Q (.ref l) (ap H l (.lst ys))):=by
 intro pins s σ H xs us Q I r h
 obtain⟨p,ys,rfl,hq,q⟩:=h
 obtain⟨u,rfl,rx⟩:=oQ r
 cases rx
 have fin:∀(its:List Value),aS ys its->ys.length<=sizeLine->∀(h':Heap) (c':Nat),(∀b o',s.heap.get? b=some o'->h'.get? b=some o') ->
   h'.get? s.heap.objs.size=some {cls:=.type "list",dict:=none,data:=.seq its.toArray c',slots:=#[]}->EP X pins σ Q (.ref s.heap.objs.size) {s with heap:=h' }:=fun its r' hz h' c' kp e=>
  ⟨.ref s.heap.objs.size,_,I.laid (t':=s.toks) kp (Gc _) (show bC X.prog X.w _ h' _ (.lst ys) from⟨hz,its,c',r',e⟩),rfl,q _ (I.hok.fresh (Gc _))⟩
 rcases hq with hq | hq
 ·obtain⟨its,r',pl,hz⟩:=I.list hq
  have hlen:=r'.length
  obtain⟨o,ho,hc,n,hd⟩:=pl.isList
  exact call_list_seq p (.inl rfl) ho hc hd (fun h' c' kp e=>fin its r' hz h' c' kp e) (by simp only[FY]<;>omega)
 ·obtain⟨its,r',pl,hz⟩:=I.tuple hq
  have hlen:=r'.length
  obtain⟨o,ho,hc,n,hd⟩:=pl
  exact call_list_seq p (.inr rfl) ho hc hd (fun h' c' kp e=>fin its r' hz h' c' kp e) (by simp only[FY]<;>omega)
theorem i9:fu X (.type "tuple") (fun xs H Q=>∃p ys,xs=[.ref p]/\((aT X.K H p ys/\∀l,H l=none->Q (.ref l) (ap H l (.tup ys)))\/(bq X.K H p ys/\Q (.ref p) H))):=by
 intro pins s σ H xs us Q I r h
 obtain⟨p,ys,rfl,h⟩:=h
 obtain⟨u,rfl,rx⟩:=oQ r
 cases rx
 rcases h with⟨hq,q⟩ | ⟨hq,q⟩
 ·obtain⟨its,r',pl,hz⟩:=I.list hq
  have hlen:=r'.length
  refine call_tuple_list pl.isList (fun h' kp=>?_) (by simp only[FY]<;>omega)
  have I1:aH X pins σ H {s with heap:=h' }:=I.kept (t':=s.toks) kp
  have I2:aH X pins σ (ap H h'.objs.size (.tup ys)) {s with heap:=h'.push {cls:=.type "tuple",data:=.seq its.toArray} }:=
   I1.laid (t':=s.toks) (fun b o e=>FR _ e) (Gc _) (show bC X.prog X.w _ _ _ (.tup ys) from⟨hz,its,r',IsTup.new _ _⟩)
  exact⟨.ref h'.objs.size,_,I2,rfl,q _ (I1.hok.fresh (Gc _))⟩
 ·obtain⟨its,r',pl,hz⟩:=I.tuple hq
  exact call_tuple_same pl ⟨.ref p,H,I,rfl,q⟩
def Df(K:PySem.W.Frag)(T:String)(x:V)(H:Hp):Prop:=match x with
 | .str _=>T="str"
 | .int _=>T="int"
 | .ref p=>(T="list"/\∃xs,aT K H p xs)\/(T="tuple"/\∃o,K.lookup p=some o/\o.cls=.type "tuple"/\o.dict=none) \/
   (T="dict"/\((∃kvs,H p=some (.dK kvs))\/∃kvs,H p=some (.dT kvs)))\/(T="set"/\∃S n,H p=some (.set S n))
 |_=>False
theorem xD{pins:List (Addr×Obj)}{σ:St}{H:Hp}{s:Shared}{T:String}{x:V}{v:Value}(I:aH X pins σ H s)(r:aY x v)(ty:Df X.K T x H) :
  s.TypeIs v T/\∀a,v=.ref a->∃ob,s.heap.get? a=some ob/\ob.dict=none:=by
 cases x with
 |str z=>
  obtain⟨t,rfl⟩:=r
  cases(show T="str" from ty)
  exact⟨typeIs_str s z t,fun _ e=>nomatch e⟩
 |int i=>
  obtain⟨t,rfl⟩:=r
  cases(show T="int" from ty)
  exact⟨typeIs_int s i t,fun _ e=>nomatch e⟩
 |ref p=>
  cases r
  rcases ty with⟨rfl,xs,hq⟩ | ⟨rfl,o,hk,hc,hd⟩ | ⟨rfl,hk⟩ | ⟨rfl,S,n,hk⟩
  ·obtain⟨its,_,pl,_⟩:=I.list hq
   refine⟨pl.isList.typeIs,fun a e=>?_⟩
   cases e
   obtain⟨o,n,e,c,hd,_⟩:=pl
   exact⟨o,e,hd⟩
  ·refine⟨⟨o,I.kIn p o hk,hc⟩,fun a e=>?_⟩
   cases e
   exact⟨o,I.kIn _ o hk,hd⟩
  ·have z:∃o,s.heap.get? p=some o/\o.ExactDict:=by
    rcases hk with⟨kvs,hk⟩ | ⟨kvs,hk⟩
    ·obtain⟨_,_,_,_,o,_,_,e,ex,_⟩:=I.hok p _ hk
     exact⟨o,e,ex⟩
    ·obtain⟨_,_,_,_,o,_,_,e,ex,_⟩:=I.hok p _ hk
     exact⟨o,e,ex⟩
   obtain⟨o,e,ex⟩:=z
   refine⟨⟨o,e,ex.1⟩,fun a e2=>?_⟩
   cases e2
   exact⟨o,e,ex.2.1⟩
  ·obtain⟨o,_,_,_,e,ex,_⟩:=I.hok p _ hk
   refine⟨⟨o,e,ex.1⟩,fun a e2=>?_⟩
   cases e2
   exact⟨o,e,ex.2.1⟩
 |_=>exact False.elim ty
def Bt(K:PySem.W.Frag)(T:String)(r:V->List V->Hp->VK->Prop)(to:TE):TE:=fun σ H Q=>to σ H fun x H1=>Df K T x H1/\r x [] H1 Q
def Dk(K:PySem.W.Frag)(T:String)(r:V->List V->Hp->VK->Prop)(to:TE)(t:TA):TE:=fun σ H Q=>to σ H fun x H1=>Df K T x H1/\t σ H1 fun xs H2=>r x xs H2 Q
variable {o e:Expr}{es:List Expr}{to:TE}{t:TA}{name:Str}{apos cpos:Pos}{T id:String}{r:V->List V->Hp->VK->Prop}
theorem mO(pa:PlainAttrs T)(slot:Slot T name id)(hty:typeOf (.builtin id)=pure (.type "method_descriptor"))(hm:AF X id r)(ho:PE X o to)
  (hbase:attributeBase o name X.env (eval o X.env)=eval o X.env:=by rfl) (hline:(apos.endLine==cpos.line)=true:=by rfl):PE X (.Call (.Attribute o name apos) [] [] cpos) (Bt X.K T r to):=by
 intro pins s σ H Q I h
 refine wpAny_Call_method0_late hbase hline (bx (ho pins s σ H _ I h) fun v s1 ⟨x,H1,I1,r1,ty,q1⟩=>?_)
 obtain⟨h1,h2⟩:=xD I1 r1 ty
 exact⟨T,id,pa,slot,hty,h1,h2,Calls.callWith_builtin rfl (PySem.evalArgs_none (hm pins s1 σ H1 x [] v [] Q I1 r1 .nil q1))⟩
theorem dm(pa:PlainAttrs T)(slot:Slot T name id)(hty:typeOf (.builtin id)=pure (.type "method_descriptor"))(hm:AF X id r)(ho:PE X o to)(ha:PA X (e::es) t)
  (hbase:attributeBase o name X.env (eval o X.env)=eval o X.env:=by rfl)
  (hfew:((backTo cpos (starEach (e::es) X.env)).all (fun x=>!x.1)&&(backToKw cpos (keywordEach [] X.env)).all (fun x=>x.1.isSome)
   && decide ((e::es).length+([]:List Keyword).length+(if([]:List Keyword).isEmpty then 0 else 1)<30))=true:=by rfl)
  (hline:(apos.endLine==cpos.line)=true:=by rfl) (hs:starEach (e::es) X.env=(false,eval e X.env)::starEach es X.env:=by rfl) (hplain:(backTo cpos (starEach es X.env)).any (·.1)=false:=by rfl) :
  PE X (.Call (.Attribute o name apos) (e::es) [] cpos) (Dk X.K T r to t):=by
 intro pins s σ H Q I h
 refine wpAny_Call_method_late hbase hfew hline rfl (bx (ho pins s σ H _ I h) fun v s1 ⟨x,H1,I1,r1,ty,q1⟩=>?_)
 obtain⟨h1,h2⟩:=xD I1 r1 ty
 refine⟨T,id,pa,slot,hty,h1,h2,?_⟩
 have hA:=ha cpos pins s1 σ H1 _ I1 q1
 rw[hs]at hA ⊢
 refine Calls.callWith_builtin (by show(false||(backTo cpos (starEach es X.env)).any (·.1))=false;rw[hplain]<;>rfl) (Calls.evalArgs_plain ?_)
 exact bx hA fun us s2 ⟨vs,H2,I2,r2,q2⟩=>hm pins s2 σ H2 x vs v us Q I2 r1 r2 q2
end
def Cb(X:Cx)(id:String)(r:V->List V->Hp->VK->Prop):Prop:=
 ∀(pins:List (Addr×Obj)) (s:Shared) (σ:St) (H:Hp) (x:V) (xs:List V) (v:Value) (us:List Value) (Q:VK),aH X pins σ H s->aY x v->aS xs us->r x xs H Q ->
  wpAny (model X.prog X.w) X.A (call (.builtin id) (v::us)) (EP X pins σ Q) X.xe s
theorem aS.one:∀{x:V} {us:List Value},aS [x] us->∃u,us=[u]/\aY x u
 |_,_,.cons r .nil=>⟨_,rfl,r⟩
theorem aS.two:∀{x y:V} {us:List Value},aS [x,y] us->∃u v,us=[u,v]/\aY x u/\aY y v
 |_,_,_,.cons r (.cons q .nil)=>⟨_,_,rfl,r,q⟩
theorem aS.zero:∀{us:List Value},aS [] us->us=[]
 |_,.nil=>rfl
theorem aS.dropLast{xs:List V}{us:List Value}(h:aS xs us):aS xs.dropLast us.dropLast:=by
 induction h with
 |nil=>exact .nil
 |cons r t ih=>
  cases t with
  |nil=>exact .nil
  |cons q t'=>exact .cons r ih
theorem aS.reverse{xs:List V}{us:List Value}(h:aS xs us):aS xs.reverse us.reverse:=by
 induction h with
 |nil=>exact .nil
 |cons r t ih=>rw[Gm,Gm];exact aS.append ih (.cons r .nil)
theorem tW{α:Type}(l:List α):l.eraseIdx (l.length-1)=l.dropLast:=by
 induction l with
 |nil=>rfl
 |cons a r ih=>
  cases r with
  |nil=>rfl
  |cons b r=>
   have e:(a::b::r).length-1=((b::r).length-1)+1:=by
    have h1:(a::b::r).length=r.length+2:=rfl
    have h2:(b::r).length=r.length+1:=rfl
    omega
   rw[e,List.eraseIdx_cons_succ,ih]
   all_goals rfl
section
variable {X:Cx}{pins:List (Addr×Obj)}{σ:St}{H:Hp}{s:Shared}{l b:Addr}{xs ys zs:List V}
theorem aH.lset{its its':List Value}{n:Nat}{f:Array Value->Array Value}{t':Nat}(I:aH X pins σ H s)(hH:H l=some (.lst xs))
  (e:s.heap.get? l=some {cls:=.type "list",data:=.seq its.toArray n}) (hf:f its.toArray=its'.toArray) (hv:aS ys its') (hz:ys.length<=sizeLine) :
  aH X pins σ (ap H l (.lst ys)) {s with heap:=s.heap.update l (Obj.mapSeq f),toks:=t' }:=by
 have q:=PySem.IsL.update e f
 rw[hf]at q
 refine I.write (x:=l) (e:=l) (by rw[hH];exact trivial) (.inl rfl) (fun b' u hb hu=>(FW s.heap (Obj.mapSeq f) (Ne.symm hb)).trans hu) ⟨_,q⟩ ?_
 exact⟨hz,its',_,hv,q⟩
theorem aH.lnew{its:List Value}{t':Nat}(I:aH X pins σ H s)(hv:aS ys its)(hz:ys.length<=sizeLine) :
  aH X pins σ (ap H s.heap.objs.size (.lst ys)) {s with heap:=s.heap.push {cls:=.type "list",data:=.seq its.toArray},toks:=t' }:=
 I.laid (fun _ _ q=>FR _ q) (Gc _) ⟨hz,its,0,hv,FX _ rfl⟩
theorem aH.fresh(I:aH X pins σ H s):H s.heap.objs.size=none:=I.hok.fresh (Gc _)
theorem aH.lstM(I:aH X pins σ H s)(hH:H l=some (.lst xs)):xs.length<=sizeLine/\∃(its:List Value) (n:Nat),aS xs its/\xs.length=its.length/\s.heap.get? l=some {cls:=.type "list",data:=.seq its.toArray n}:=by
 obtain⟨z,its,n,r,e⟩:=I.hok l _ hH
 exact⟨z,its,n,r,r.length,e⟩
theorem ng{n:Nat}(h:n<=sizeLine):Builtin.List.listTooLong n=false:=by
 unfold Builtin.List.listTooLong
 exact decide_eq_false (by omega)
end
section
variable {X:Cx}
def ux:V->List V->Hp->VK->Prop:=fun x vs H Q=>∃l xs y,x=.ref l/\vs=[y]/\H l=some (.lst xs)/\xs.length<sizeLine/\Q .non (ap H l (.lst (xs++[y])))
theorem b7:Cb X "list.append" ux:=by
 intro pins s σ H x vs v us Q I rx rv h
 obtain⟨l,xs,y,rfl,rfl,hH,hz,q⟩:=h
 cases rx
 obtain⟨u,rfl,ru⟩:=rv.one
 obtain⟨z,its,n,r,hl,e⟩:=I.lstM hH
 refine call_meets F.slot_list_append ⟨_,e,rfl⟩ F.entry_list_append (F.args_list_append_2 _ _) (PySem.list_append l its.toArray n u (by rw[FY];omega)) ⟨e,?_⟩
 refine⟨.non,_,I.lset (its':=its++[u]) hH e (by simp) (r.append (.cons ru .nil)) ?_,rfl,q⟩
 rw[Gb,List.length_singleton]
 omega
def u8:V->List V->Hp->VK->Prop:=fun x vs H Q=>∃l b xs zs,x=.ref l/\vs=[.ref b]/\H l=some (.lst xs)/\H b=some (.lst zs)/\xs.length+zs.length<=sizeLine/\Q .non (ap H l (.lst (xs++zs)))
theorem pz:Cb X "list.extend" u8:=by
 intro pins s σ H x vs v us Q I rx rv h
 obtain⟨l,b,xs,zs,rfl,rfl,hH,hB,hz,q⟩:=h
 cases rx
 obtain⟨u,rfl,ru⟩:=rv.one
 cases ru
 obtain⟨z,its,n,r,hl,e⟩:=I.lstM hH
 obtain⟨z2,its2,n2,r2,hl2,e2⟩:=I.lstM hB
 have hsz:its.toArray.size+its2.toArray.size<=sizeLine:=by rw[FY,FY];omega
 have hlong:¬ (!its.toArray.isEmpty&&Builtin.List.listTooLong (its.toArray.size+its2.toArray.size))=true:=by
  rw[ng hsz,Bool.and_false]
  exact Gf
 refine call_meets F.slot_list_extend ⟨_,e,rfl⟩ F.entry_list_extend (F.args_list_extend_2 _ _)
  (AutoSeq1.list_extend_list_list_0 l its.toArray n b its2.toArray n2 hlong (by rw[FY];omega) (by omega)) ⟨e,e2,?_⟩
 refine⟨.non,_,I.lset (its':=its++its2) hH e (by simp) (r.append r2) ?_,rfl,q⟩
 rw[Gb]
 omega
def BM:V->List V->Hp->VK->Prop:=fun x vs H Q=>∃l xs y,x=.ref l/\vs=[]/\H l=some (.lst xs)/\xs[xs.length-1]?=some y/\Q y (ap H l (.lst xs.dropLast))
theorem nS:Cb X "list.pop" BM:=by
 intro pins s σ H x vs v us Q I rx rv h
 obtain⟨l,xs,y,rfl,rfl,hH,hy,q⟩:=h
 cases rx
 have hus:=rv.zero
 subst hus
 obtain⟨z,its,n,r,hl,e⟩:=I.lstM hH
 obtain⟨u,hu,ru⟩:=r.get hy
 have hy':its.toArray[its.toArray.size-1]?=some u:=by
  show its.toArray[its.length-1]?=some u
  rw[<- Array.getElem?_toList,<- hl]
  exact hu
 refine call_meets F.slot_list_pop ⟨_,e,rfl⟩ F.entry_list_pop (F.args_list_pop_1 _) (MeetsSeq.list_pop_last l its.toArray n u hy' (by rw[FY];omega)) ⟨e,?_⟩
 refine⟨y,_,I.lset (its':=its.dropLast) hH e ?_ r.dropLast ?_,ru,q⟩
 ·show its.toArray.eraseIdxIfInBounds (its.toArray.size-1)=its.dropLast.toArray
  rw[FY,List.eraseIdxIfInBounds_toArray,tW]
 ·rw[List.length_dropLast]
  omega
def B_:R2:=fun x y H Q=>∃l b xs zs,x=.ref l/\y=.ref b/\H l=some (.lst xs)/\H b=some (.lst zs)/\xs.length+zs.length<=sizeLine/\∀p,H p=none->Q (.ref p) (ap H p (.lst (xs++zs)))
theorem tO:jN X (binaryOp .Add) B_:=by
 intro pins s σ H x y v u Q I rx ry h
 obtain⟨l,b,xs,zs,rfl,rfl,hH,hB,hz,q⟩:=h
 cases rx
 cases ry
 obtain⟨z,its,n,r,hl,e⟩:=I.lstM hH
 obtain⟨z2,its2,n2,r2,hl2,e2⟩:=I.lstM hB
 refine PySem.P.add_list e e2 ?_ (by rw[FY,FY];omega)
 have ea:its.toArray++its2.toArray=(its++its2).toArray:=by simp
 rw[ea]
 exact⟨.ref _,_,I.lnew (t':=s.toks) (r.append r2) (by rw[Gb];omega),rfl,q _ I.fresh⟩
end
section
variable {prog:Program}{w:World}{A:Around}{E:Value->Shared->Prop}{s:Shared}
end
section
variable {X:Cx}
end
section
variable {κ:Type}[DecidableEq κ]
def cj(kvs:List (κ×V))(k:κ):Option V:=(kvs.find? fun kv=>decide (kv.1=k)).map (·.2)
def dO(kvs:List (κ×V))(k:κ)(v:V):List (κ×V):=
 if(kvs.any fun kv=>decide (kv.1=k))=true then kvs.map (fun kv=>if kv.1=k then(kv.1,v) else kv) else kvs++[(k,v)]
theorem bY{p:κ×V}{r:List (κ×V)}{k:κ}(e:p.1=k):cj (p::r) k=some p.2:=by simp[cj,List.find?_cons,e]
theorem b6{p:κ×V}{r:List (κ×V)}{k:κ}(e:¬ p.1=k):cj (p::r) k=cj r k:=by simp[cj,List.find?_cons,e]
theorem fU(k:κ):∀kvs:List (κ×V),(kvs.any fun kv=>decide (kv.1=k))=(cj kvs k).isSome
 | []=>rfl
 |p::r=>by
  rw[List.any_cons]
  by_cases e:p.1=k
  ·simp only[bY e,decide_eq_true e,Bool.true_or,Option.isSome_some]
  ·rw[b6 e,decide_eq_false e,Bool.false_or];exact fU k r
theorem rG(k j:κ)(y:V):∀kvs:List (κ×V),cj (kvs.map fun kv=>if kv.1=k then(kv.1,y) else kv) j=(cj kvs j).map fun x=>if j=k then y else x
 | []=>rfl
 |p::r=>by
  have ih:=rG k j y r
  rw[Gk]
  by_cases h:p.1=k
  ·rw[if_pos h]
   by_cases e:p.1=j
   ·rw[bY (p:=(p.1,y)) e,bY e,Option.map_some,if_pos (e.symm.trans h)]
   ·rw[b6 (p:=(p.1,y)) e,b6 e,ih]
  ·rw[if_neg h]
   by_cases e:p.1=j
   ·rw[bY (p:=p) e,bY e,Option.map_some,if_neg (fun z=>h (e.trans z))]
   ·rw[b6 (p:=p) e,b6 e,ih]
theorem o4(k j:κ)(y:V):∀kvs:List (κ×V),cj kvs k=none->cj (kvs++[(k,y)]) j=if j=k then some y else cj kvs j
 | [],_=>by
  by_cases e:k=j
  ·rw[if_pos e.symm];exact bY (p:=(k,y)) e
  ·rw[if_neg (fun z=>e z.symm)];exact b6 (p:=(k,y)) e
 |p::r,hn=>by
  rw[List.cons_append]
  have hk:¬ p.1=k:=fun z=>by rw[bY z]at hn;cases hn
  rw[b6 hk]at hn
  have ih:=o4 k j y r hn
  by_cases e:p.1=j
  ·rw[bY e,bY e,if_neg (fun z=>hk (e.trans z))]
  ·rw[b6 e,b6 e,ih]
theorem wS(kvs:List (κ×V))(k j:κ)(y:V):cj (dO kvs k y) j=if j=k then some y else cj kvs j:=by
 unfold dO
 by_cases a:(kvs.any fun kv=>decide (kv.1=k))=true
 ·rw[if_pos a,rG]
  rw[fU]at a
  by_cases e:j=k
  ·obtain⟨x,hx⟩:=Option.isSome_iff_exists.mp a
   rw[if_pos e,e,hx,Option.map_some,if_pos rfl]
  ·rw[if_neg e]
   cases cj kvs j with
   |none=>rfl
   |some x=>rw[Option.map_some,if_neg e]
 ·rw[if_neg a]
  refine o4 k j y kvs ?_
  rw[fU]at a
  cases q:cj kvs k with
  |none=>rfl
  |some x=>rw[q]at a;exact(a rfl).elim
theorem fB(kvs:List (κ×V))(k:κ)(v:V):(dO kvs k v).length<=kvs.length+1:=by
 unfold dO
 split
 ·rw[FS];omega
 ·rw[Gb,F2,List.length_nil];omega
theorem yd{kvs:List (κ×V)}{k:κ}(v:V)(h:cj kvs k=none):dO kvs k v=kvs++[(k,v)]:=by
 unfold dO
 rw[fU,h]
 exact if_neg (by decide)
theorem iw.isSome_eq{o:Option V}{u:Option Value}(r:iw o u):o.isSome=u.isSome:=by
 cases o with
 |none=>cases u with
  |none=>rfl
  |some _=>exact(show False from r).elim
 |some _=>cases u with
  |none=>exact(show False from r).elim
  |some _=>rfl
theorem KV.val{kvs:List (κ×V)}{vs:List (κ×Value)}(r:KV kvs vs)(k:κ):iw (cj kvs k) (valueAt vs k):=by
 unfold KV at r
 induction r with
 |nil=>exact True.intro
 | @cons p q ps qs h t ih=>
  obtain⟨h1,h2⟩:=h
  by_cases e:p.1=k
  ·have e':q.1=k:=h1.symm.trans e
   have b:valueAt (q::qs) k=some q.2:=by simp[valueAt,List.find?_cons,e']
   rw[bY e,b];exact h2
  ·have e':¬ q.1=k:=fun z=>e (h1.trans z)
   have b:valueAt (q::qs) k=valueAt qs k:=by simp[valueAt,List.find?_cons,e']
   rw[b6 e,b];exact ih
theorem KV.any{kvs:List (κ×V)}{vs:List (κ×Value)}(r:KV kvs vs)(k:κ):(kvs.any fun kv=>decide (kv.1=k))=vs.any fun kv=>decide (kv.1=k):=by
 unfold KV at r
 induction r with
 |nil=>rfl
 |cons h t ih=>rw[List.any_cons,List.any_cons,ih,h.1]
theorem KV.repl{kvs:List (κ×V)}{vs:List (κ×Value)}(r:KV kvs vs)(k:κ){y:V}{u:Value}(ry:aY y u) :
  KV (kvs.map fun kv=>if kv.1=k then(kv.1,y) else kv) (vs.map fun kv=>if kv.1=k then(kv.1,u) else kv):=by
 unfold KV at r ⊢
 induction r with
 |nil=>exact .nil
 | @cons p q ps qs h t ih=>
  rw[Gk,Gk]
  refine .cons ?_ ih
  obtain⟨h1,h2⟩:=h
  by_cases e:p.1=k
  ·rw[if_pos e,if_pos (h1.symm.trans e)];exact⟨h1,ry⟩
  ·rw[if_neg e,if_neg (fun z=>e (h1.trans z))];exact⟨h1,h2⟩
theorem KV.put{kvs:List (κ×V)}{vs:List (κ×Value)}(r:KV kvs vs)(k:κ){y:V}{u:Value}(ry:aY y u):KV (dO kvs k y) (stored vs k u):=by
 unfold dO stored
 rw[r.any k]
 by_cases e:(vs.any fun kv=>decide (kv.1=k))=true
 ·rw[if_pos e,if_pos e];exact r.repl k ry
 ·rw[if_neg e,if_neg e];exact Paired.snoc r ⟨rfl,ry⟩
theorem KV.length{kvs:List (κ×V)}{vs:List (κ×Value)}(r:KV kvs vs):kvs.length=vs.length:=Paired.length r
end
theorem o_{P:Program}{w:World}{k:cW}{u:Value}(r:aY (kV k) u):(bQ P w).is k u=true:=by
 cases k with
 |inl i=>obtain⟨t,e⟩:=(show ∃t,u=Value.int i t from r);subst e;exact rn P w i t
 |inr x=>obtain⟨t,e⟩:=(show ∃t,u=Value.str x t from r);subst e;exact q9 P w x t
theorem oZ{P:Program}{w:World}:∀{ks:List cW} {us:List Value},aS (ks.map kV) us->ItemsAre (bQ P w) ks us
 | [],_,r=>by rw[List.map_nil]at r;cases r;exact .nil
 |k::ks,_,r=>by
  rw[Gk]at r
  cases r with
  |cons h t=>exact .cons (o_ h) (oZ t)
abbrev KT(H:Hp):List (List cW×V)->List (List cW×Addr×Value)->Prop:=Paired fun p q=>p.1=q.1/\H q.2.1=some (.tup (p.1.map kV))/\aY p.2 q.2.2
theorem KT.val{H:Hp}{kvs:List (List cW×V)}{xs:List (List cW×Addr×Value)}(r:KT H kvs xs)(k:List cW):iw (cj kvs k) ((atKey xs k).map (·.2)):=by
 induction r with
 |nil=>exact True.intro
 | @cons p q ps qs h t ih=>
  obtain⟨h1,_,h2⟩:=h
  by_cases e:p.1=k
  ·have e':q.1=k:=h1.symm.trans e
   have b:atKey (q::qs) k=some q.2:=by simp[atKey,List.find?_cons,e']
   rw[bY e,b];exact h2
  ·have e':¬ q.1=k:=fun z=>e (h1.trans z)
   have b:atKey (q::qs) k=atKey qs k:=by simp[atKey,List.find?_cons,e']
   rw[b6 e,b];exact ih
theorem KT.repl{H:Hp}{kvs:List (List cW×V)}{xs:List (List cW×Addr×Value)}(r:KT H kvs xs)(k:List cW){y:V}{u:Value}(ry:aY y u) :
  KT H (kvs.map fun kv=>if kv.1=k then(kv.1,y) else kv) (xs.map (putAt k u)):=by
 induction r with
 |nil=>exact .nil
 | @cons p q ps qs h t ih=>
  rw[Gk,Gk]
  refine .cons ?_ ih
  obtain⟨h1,h2,h3⟩:=h
  unfold putAt
  by_cases e:p.1=k
  ·rw[if_pos e,if_pos (h1.symm.trans e)];exact⟨h1,h2,ry⟩
  ·rw[if_neg e,if_neg (fun z=>e (h1.trans z))];exact⟨h1,h2,h3⟩
theorem KT.put{H:Hp}{kvs:List (List cW×V)}{xs:List (List cW×Addr×Value)}(r:KT H kvs xs)(k:List cW){b:Addr}{y:V}{u:Value}(hb:H b=some (.tup (k.map kV)))(ry:aY y u) :
  KT H (dO kvs k y) (storedH xs k b u):=by
 have e:(kvs.any fun kv=>decide (kv.1=k))=(atKey xs k).isSome:=by
  rw[fU,(r.val k).isSome_eq,Option.isSome_map]
 unfold dO storedH
 rw[e]
 by_cases q:(atKey xs k).isSome=true
 ·rw[if_pos q,if_pos q];exact r.repl k ry
 ·rw[if_neg q,if_neg q];exact Paired.snoc r ⟨rfl,hb,ry⟩
theorem KT.keeps{H H':Hp}{kvs:List (List cW×V)}{xs:List (List cW×Addr×Value)}(r:KT H kvs xs)(ht:∀b ys,H b=some (.tup ys)->H' b=some (.tup ys)):KT H' kvs xs:=
 Paired.mapP r fun _ _ z=>⟨z.1,ht _ _ z.2.1,z.2.2⟩
section
variable {P:Program}{w:World}{H:Hp}{h:Heap}{a:Addr}
theorem Ao{u:HO}(ok:i5 P w H h)(e:Rd H a u):bC P w H h a u:=e.ok ok
theorem pi{kvs:List (cW×V)}(ok:i5 P w H h)(e:Rd H a (.dK kvs)):kvs.length<=sizeLine/\(a==sysModules)=false/\∃vs,KV kvs vs/\h.DictOf (bQ P w) a vs:=
 show bC P w H h a (.dK kvs) from Ao ok e
theorem yt{kvs:List (cW×V)}(ok:i5 P w H h)(e:H a=some (.dK kvs)):kvs.length<=sizeLine/\(a==sysModules)=false/\∃vs,KV kvs vs/\h.DictOf (bQ P w) a vs:=pi ok (.inl e)
theorem qf{ks:List cW}(ok:i5 P w H h)(e:H a=some (.tup (ks.map kV))):(tupleKind (bQ P w)).is h ks a:=by
 obtain⟨_,its,r,o,h1,h2,n,h3⟩:=(show bC P w H h a (.tup (ks.map kV)) from ok a _ e)
 exact⟨o,its.toArray,n,h1,h2,h3,by simpa using oZ r⟩
theorem rA{kvs:List (List cW×V)}(ok:i5 P w H h)(e:Rd H a (.dT kvs)):kvs.length<=sizeLine/\(a==sysModules)=false /\
  ∃xs,KT H kvs xs/\h.DictOfH (tupleKind (bQ P w)) a xs:=by
 obtain⟨z,y,xs,r,o,es,ep,h1,h2,h3,h4,h5⟩:=(show bC P w H h a (.dT kvs) from Ao ok e)
 refine⟨z,y,xs,r,o,es,ep,h1,h2,h3,h4,fun x hx=>?_,h5⟩
 have all:∀{l:List (List cW×V)} {m:List (List cW×Addr×Value)},KT H l m->∀x∈m,(tupleKind (bQ P w)).is h x.1 x.2.1:=by
  intro l m q
  induction q with
  |nil=>intro x hx;exact nomatch hx
  | @cons p q ps qs hq t ih=>
   intro x hx
   rcases F6.mp hx with e | hx
   ·subst e
    exact qf ok (by rw[<- hq.1];exact hq.2.1)
   ·exact ih x hx
 exact all r x hx
theorem BB{kvs:List (List cW×V)}(ok:i5 P w H h)(e:H a=some (.dT kvs)):kvs.length<=sizeLine/\(a==sysModules)=false /\
  ∃xs,KT H kvs xs/\h.DictOfH (tupleKind (bQ P w)) a xs:=rA ok (.inl e)
end
def nZ(H:Hp)(a:Addr)(y:V)(r:Option V):Prop:=
 (∃kvs k,Rd H a (.dK kvs)/\y=kV k/\r=cj kvs k)\/∃kvs k b,Rd H a (.dT kvs)/\y=.ref b/\H b=some (.tup (k.map kV))/\r=cj kvs k
def yj(H:Hp)(a:Addr)(y v:V)(H':Hp):Prop:=
 (∃kvs k,H a=some (.dK kvs)/\y=kV k/\kvs.length<sizeLine/\H'=ap H a (.dK (dO kvs k v))) \/
 ∃kvs k b,H a=some (.dT kvs)/\y=.ref b/\H b=some (.tup (k.map kV))/\kvs.length<sizeLine/\H'=ap H a (.dT (dO kvs k v))
theorem nZ.k{H:Hp}{a:Addr}{kvs:List (cW×V)}{k:cW}(e:H a=some (.dK kvs)):nZ H a (kV k) (cj kvs k):=.inl ⟨kvs,k,.inl e,rfl,rfl⟩
theorem yj.k{H:Hp}{a:Addr}{kvs:List (cW×V)}{k:cW}{v:V}(e:H a=some (.dK kvs))(hl:kvs.length<sizeLine):yj H a (kV k) v (ap H a (.dK (dO kvs k v))):=.inl ⟨kvs,k,e,rfl,hl,rfl⟩
section
variable {X:Cx}{pins:List (Addr×Obj)}{σ:St}{H:Hp}{s:Shared}{a:Addr}{y v:V}{u r:Value}{o:Option V}{A:Around}{E:Value->Shared->Prop}
theorem aH.big(I:aH X pins σ H s):sysModules<s.heap.objs.size:=by
 have h:mainGlobals<s.heap.objs.size:=(I.mod.glob.keeps I.bk).lt
 exact Nat.lt_trans (by decide) h
theorem vK{Q:Value->Shared->Prop}(hu:A.units+1<cLine)(I:aH X pins σ H s)(g:nZ H a y (some v))(ry:aY y u)(h:∀w' s',aH X pins σ H s'->aY v w'->Q w' s') :
  wpAny (model X.prog X.w) A (getItem (.ref a) u) Q E s:=by
 rcases g with⟨kvs,k,e,ey,l⟩ | ⟨kvs,k,b,e,ey,eb,l⟩
 ·subst ey
  obtain⟨z,hd,vs,rel,dd⟩:=pi I.hok e
  obtain⟨w',hw,rw'⟩:=iw.some_of (v:=v) (o:=valueAt vs k) (by rw[l];exact rel.val k)
  exact wpAny_getItem_of (o_ ry) dd.mapOf hw (h w' _ (I.tok _) rw')
 ·subst ey
  cases(show u=Value.ref b from ry)
  obtain⟨z,hd,xs,rel,dd⟩:=rA I.hok e
  obtain⟨w',hw,rw'⟩:=iw.some_of (v:=v) (o:=(atKey xs k).map (·.2)) (by rw[l];exact rel.val k)
  obtain⟨p,hp,hp2⟩:=Gh.mp hw
  refine wpAny_getItem_heap (tupleKind_room_in1 hu) (qf I.hok eb) dd hp ?_
  rw[hp2]
  exact h w' _ (I.tok _) rw'
theorem zn{Q:Value->Shared->Prop}(hu:A.units+1<cLine)(I:aH X pins σ H s)(g:nZ H a y o)(ry:aY y u)(h:∀s',aH X pins σ H s'->Q (.bool (!o.isSome)) s') :
  wpAny (model X.prog X.w) A (compareOp .NotIn u (.ref a)) Q E s:=by
 rcases g with⟨kvs,k,e,ey,l⟩ | ⟨kvs,k,b,e,ey,eb,l⟩
 ·subst ey
  obtain⟨z,hd,vs,rel,dd⟩:=pi I.hok e
  refine wpAny_notIn_of (o_ ry) hd dd.mapOf ?_
  rw[<- (rel.val k).isSome_eq,<- l]
  exact h _ (I.tok _)
 ·subst ey
  cases(show u=Value.ref b from ry)
  obtain⟨z,hd,xs,rel,dd⟩:=rA I.hok e
  refine wpAny_notIn_heap (tupleKind_room_in1 hu) (qf I.hok eb) hd dd ?_
  have q:=(rel.val k).isSome_eq
  rw[Option.isSome_map]at q
  rw[<- q,<- l]
  exact h _ (I.tok _)
theorem md{h':Heap}{t':Nat}{ob:HO}(I:aH X pins σ H s)(mu:Bu (H a))(hs:Heap.SameBut a s.heap h')(he:∃q,h'.get? a=some q)(new:bC X.prog X.w (ap H a ob) h' a ob) :
  aH X pins σ (ap H a ob) {s with heap:=h',toks:=t' }:=
 I.write (x:=a) (e:=a) mu (.inl rfl) (fun b q hb z=>(hs.2 b hb).trans z) he new
theorem ug{P:Program}{w:World}{H':Hp}{h':Heap}{kvs:List (cW×V)}{vs:List (cW×Value)}(z:kvs.length<=sizeLine)(hd:(a==sysModules)=false)(rel:KV kvs vs)(dd:h'.DictOf (bQ P w) a vs) :
  bC P w H' h' a (.dK kvs):=⟨z,hd,vs,rel,dd⟩
theorem wg{H':Hp}{Q:Unit->Shared->Prop}(hu:A.units+1<cLine)(I:aH X pins σ H s)(g:yj H a y v H')(ry:aY y u)(rv:aY v r)(h:∀s',aH X pins σ H' s'->Q () s') :
  wpAny (model X.prog X.w) A (setItem (.ref a) u r) Q E s:=by
 rcases g with⟨kvs,k,e,ey,l,eH⟩ | ⟨kvs,k,b,e,ey,eb,l,eH⟩
 ·subst ey eH
  obtain⟨z,hd,vs,rel,dd⟩:=yt I.hok e
  have hz:vs.length<=sizeLine:=by rw[<- rel.length];exact z
  have hl:(dO kvs k v).length<=sizeLine:=by have:=fB kvs k v;omega
  refine wpAny_setItem_pairs (hsz:=hz) (o_ ry) dd fun h' dd' hs=>h _ ?_
  have he:∃q,h'.get? a=some q:=let ⟨q,_,_,hq,_⟩:=dd';⟨q,hq⟩
  exact md I (by rw[e];exact True.intro) hs he (ug hl hd (rel.put k rv) dd')
 ·subst ey eH
  cases(show u=Value.ref b from ry)
  obtain⟨z,hd,xs,rel,dd⟩:=BB I.hok e
  have hz:xs.length<=sizeLine:=by rw[<- Paired.length rel];exact z
  have hl:(dO kvs k v).length<=sizeLine:=by have:=fB kvs k v;omega
  refine wpAny_setItem_heap (hsz:=hz) (tupleKind_room_in1 hu) (qf I.hok eb) dd fun h' dd' hs=>h _ ?_
  obtain⟨q,es,ep,hq,h2,h3,h4,_,h5⟩:=dd'
  refine md I (by rw[e];exact True.intro) hs ⟨q,hq⟩ ⟨hl,hd,_,(rel.put k eb rv).keeps fun c ys ec=>?_,q,es,ep,hq,h2,h3,h4,h5⟩
  rw[aj (BL ec e (fun z=>nomatch z))]
  exact ec
end
section
variable {X:Cx}{pins:List (Addr×Obj)}{σ:St}{H:Hp}{s:Shared}{a:Addr}{kvs:List (cW×V)}{k:cW}{u:Value}{A:Around}{E:Value->Shared->Prop}
theorem B8{Q:Value->Shared->Prop}(I:aH X pins σ H s)(e:Rd H a (.dK kvs))(h:∀t s',aH X pins σ H s'->Q (.int kvs.length t) s'):wpAny (model X.prog X.w) A (call (.builtin "len") [.ref a]) Q E s:=by
 obtain⟨z,hd,vs,rel,dd⟩:=pi I.hok e
 refine call_len_dict hd dd (by rw[<- rel.length];rw[sizeLine_eq]at z;omega) ?_
 rw[<- rel.length]
 exact h _ _ (I.tok _)
end
def BO(i:Expr):Prop:=∀ov iv,subscripted i false ov iv=operate [ov,iv] (getItem ov iv)
theorem yX{prog:Program}{w:World}{A:Around}{E:Value->Shared->Prop}{s:Shared}{env:Env}{value slice:Expr}{pos:Pos}{T id:String}{Q:Value->Shared->Prop}
  (hl:typeLookup (.type T) "__getitem__"=pure (some (.builtin id))) (hs:BO slice)
  (h:wpAny (model prog w) A (eval value env) (fun o s₁=>wpAny (model prog w) A (eval slice env) (fun i s₂=>s₂.TypeIs o T/\wpAny (model prog w) A (getItem o i) Q E s₂) E s₁) E s) :
  wpAny (model prog w) A (eval (.Subscript value slice pos) env) Q E s:=by
 refine Subscript_ (wpAny_mono h (fun o s₁ h₁=>wpAny_mono h₁ (fun i s₂ h₂=>?_) fun _ _ x=>x) fun _ _ x=>x)
 obtain⟨hT,h₂⟩:=h₂
 unfold subscriptTail
 refine wpAny_bind ?_
 rw[getitemInPython_of_ne hT.not_modules]
 refine wpAny_bind (wpAny_specialOf hT hl ?_)
 have fin:wpAny (model prog w) A (subscripted slice false o i) (fun r s₃=>wpAny (model prog w) A (letTemporaryGo value o r >>= fun _=>pure r) Q E s₃) E s₂:=by
  rw[hs o i]
  exact wpAny_operating (wpAny_mono h₂ (fun r s₃ h₃=>wpAny_bind (wpAny_letTemporaryGo (wpAny_pure h₃))) fun _ _ x=>x)
 first
  |exact wpAny_pure (wpAny_bind fin)
  |exact wpAny_bind (wpAny_pure (wpAny_bind fin))
  |exact wpAny_bind fin
theorem rg{X:Cx}{pins:List (Addr×Obj)}{σ:St}{H:Hp}{s:Shared}{a:Addr}{y:V}{o:Option V}(I:aH X pins σ H s)(g:nZ H a y o):s.TypeIs (.ref a) "dict":=by
 rcases g with⟨kvs,k,e,_,_⟩ | ⟨kvs,k,b,e,_,_,_⟩
 ·obtain⟨_,_,vs,_,dd⟩:=pi I.hok e
  exact dd.typeIs
 ·obtain⟨_,_,xs,_,dd⟩:=rA I.hok e
  exact dd.typeIs
def Ab(td ty:TE):TE:=fun σ H Q=>td σ H fun x H1=>ty σ H1 fun y H2=>∃a v,x=.ref a/\nZ H2 a y (some v)/\Q v H2
def uV(ty td:TE):TE:=fun σ H Q=>ty σ H fun y H1=>td σ H1 fun x H2=>∃a o,x=.ref a/\nZ H2 a y o/\Q (.bl (!o.isSome)) H2
def zV(td ty tv:TE):TS:=fun D σ H=>tv σ H fun v H1=>td σ H1 fun x H2=>ty σ H2 fun y H3=>∃a H4,x=.ref a/\yj H3 a y v H4/\D.nx σ H4
section
variable {X:Cx}{o i e value:Expr}{pos pos' tpos:Pos}{td ty tv:TE}
theorem zr(hu:X.A.units+1<cLine)(ho:PE X o td)(hi:PE X i ty)(hs:BO i):PE X (.Subscript o i pos) (Ab td ty):=by
 intro pins s σ H Q I h
 refine yX PySem.F.slot_dict_getitem.lookup hs (bx (ho pins s σ H _ I h) fun u s1 ⟨x,H1,I1,rx,q1⟩=>bx (hi pins s1 σ H1 _ I1 q1) fun iv s2 ⟨y,H2,I2,ry,a,v,ex,g,q2⟩=>?_)
 subst ex
 obtain rfl:u=Value.ref a:=rx
 exact⟨rg I2 g,vK hu I2 g ry fun w' s3 I3 rw'=>⟨v,H2,I3,rw',q2⟩⟩
theorem vC(hu:X.A.units+1<cLine)(hi:PE X i ty)(ho:PE X o td):PC X .NotIn i o (uV ty td):=by
 intro pins s σ H Q I h
 refine bx (hi pins s σ H _ I h) fun iv s1 ⟨y,H1,I1,ry,q1⟩=>bx (ho pins s1 σ H1 _ I1 q1) fun u s2 ⟨x,H2,I2,rx,a,ov,ex,g,q2⟩=>?_
 subst ex
 obtain rfl:u=Value.ref a:=rx
 exact zn hu I2 g ry fun s3 I3=>⟨.bl (!ov.isSome),H2,I3,rfl,q2⟩
theorem yZ(hu:X.A.units+1<cLine)(ho:PE X o td)(hi:PE X i ty)(hv:PE X value tv)(hs:swapsWith value (some (.Subscript o i pos')) pos.line X.env=pure false) :
  PS X (.Assign [.Subscript o i pos'] value pos) (zV td ty tv):=by
 intro pins s σ H D I h
 refine wpAny_Assign_Subscript (bx (hv pins s σ H _ I h) fun r s1 ⟨v,H1,I1,rv,q1⟩=>bx (ho pins s1 σ H1 _ I1 q1) fun u s2 ⟨x,H2,I2,rx,q2⟩=>bx (hi pins s2 σ H2 _ I2 q2) fun iv s3 ⟨y,H3,I3,ry,a,H4,ex,g,q3⟩=>?_) hs
 subst ex
 obtain rfl:u=Value.ref a:=rx
 exact wg hu I3 g ry rv fun s4 I4=>⟨σ,H4,I4,q3⟩
end
theorem rj{P:Program}{w:World}{H:Hp}(h:Heap)(hb:sysModules<h.objs.size):bC P w H (h.push {cls:=.type "dict",data:=.dict #[]}) h.objs.size (.dK []):=
 ⟨Gd _,beq_eq_false_iff_ne.mpr (Ne.symm (F_ hb)),[],.nil,Heap.DictOf.new h⟩
def yx:TE:=fun _ H Q=>∀p,H p=none->Q (.ref p) (ap H p (.dK []))
section
variable {X:Cx}{pos:Pos}
theorem wV:PE X (.Dict [] [] pos) yx:=fun pins s σ H Q I h=>
 wpAny_Dict_empty ⟨.ref s.heap.objs.size,_,I.laid (a:=s.heap.objs.size) (o:=.dK []) (t':=s.toks) (fun _ _ q=>FR _ q) (Gc _) (rj s.heap I.big),rfl,h _ (I.hok.fresh (Gc _))⟩
end
def qI:List (TE×TE)->St->Hp->(List (V×V)->Hp->Prop)->Prop
 | [],_,H,Q=>Q [] H
 | (tk,tv)::r,σ,H,Q=>tk σ H fun x H1=>tv σ H1 fun y H2=>qI r σ H2 fun ps H3=>Q ((x,y)::ps) H3
abbrev VV:List (V×V)->List (Value×Value)->Prop:=Paired fun p q=>aY p.1 q.1/\aY p.2 q.2
def Ci(X:Cx)(pos:Pos)(keys:List (Option Expr))(values:List Expr)(trs:List (TE×TE)):Prop:=
 ∀(pins:List (Addr×Obj)) (s:Shared) (σ:St) (H:Hp) (Q:List (V×V)->Hp->Prop),aH X pins σ H s->qI trs σ H Q ->
  wpAny (model X.prog X.w) X.A (evalPairs (pairTrees keys values X.env pos)) (fun vs s'=>∃ps H',aH X pins σ H' s'/\VV ps vs/\Q ps H') X.xe s
theorem yQ{X:Cx}{pos:Pos}:Ci X pos [] [] []:=fun pins s σ H Q I h=>pairTrees_nil_walk ⟨[],H,I,.nil,h⟩
theorem wO{X:Cx}{pos:Pos}{k v:Expr}{ks:List (Option Expr)}{vs:List Expr}{tk tv:TE}{trs:List (TE×TE)}(hk:PE X k tk)(hv:PE X v tv)(hr:Ci X pos ks vs trs) :
  Ci X pos (some k::ks) (v::vs) ((tk,tv)::trs):=fun pins s σ H Q I h=>
 pairTrees_cons_walk (bx (hk pins s σ H _ I h) fun u s1 ⟨x,H1,I1,rx,q1⟩=>bx (hv pins s1 σ H1 _ I1 q1) fun w2 s2 ⟨y,H2,I2,ry,q2⟩=>
  bx (hr pins s2 σ H2 _ I2 q2) fun ws s3 ⟨ps,H3,I3,rel,q3⟩=>⟨(x,y)::ps,H3,I3,.cons ⟨rx,ry⟩ rel,q3⟩)
def mH(kvs more:List (cW×V)):List (cW×V):=more.foldl (fun acc kv=>dO acc kv.1 kv.2) kvs
theorem KV.merge:∀{more:List (cW×V)} {rs:List (cW×Value)} {kvs:List (cW×V)} {vs:List (cW×Value)},KV more rs->KV kvs vs->KV (mH kvs more) (merged vs rs):=by
 intro more rs kvs vs r
 unfold KV at r
 induction r generalizing kvs vs with
 |nil=>intro q;exact q
 | @cons p q ps qs h t ih=>
  intro r0
  have e:KV (dO kvs p.1 p.2) (stored vs q.1 q.2):=by
   have:=r0.put p.1 h.2
   rw[<- h.1];exact this
  exact ih e
theorem i_:∀(more kvs:List (cW×V)),(mH kvs more).length<=kvs.length+more.length
 | [],kvs=>by show kvs.length<=kvs.length+0;omega
 |p::r,kvs=>by
  have h1:=i_ r (dO kvs p.1 p.2)
  have h2:=fB kvs p.1 p.2
  show(mH (dO kvs p.1 p.2) r).length<=_
  rw[F2];omega
theorem nR{P:Program}{w:World}:∀{kvs:List (cW×V)} {ws:List (Value×Value)},VV (kvs.map fun kv=>(kV kv.1,kv.2)) ws->∃rs,Carries (bQ P w) ws rs/\KV kvs rs
 | [],_,r=>by rw[List.map_nil]at r;cases r;exact⟨[],True.intro,.nil⟩
 |p::kvs,_,r=>by
  rw[Gk]at r
  cases r with
  | @cons a b as bs h t=>
   obtain⟨rs,c,q⟩:=nR (P:=P) (w:=w) t
   obtain⟨b1,b2⟩:=b
   exact⟨(p.1,b2)::rs,⟨o_ h.1,rfl,c⟩,.cons ⟨rfl,h.2⟩ q⟩
def Ag(trs:List (TE×TE)):TE:=fun σ H Q=>∀p,H p=none->qI trs σ (ap H p (.dK [])) fun ps H2=>H2 p=some (.dK [])/\∃kvs:List (cW×V),ps=kvs.map (fun kv=>(kV kv.1,kv.2))/\kvs.length<=15/\Q (.ref p) (ap H2 p (.dK (mH [] kvs)))
theorem zt{X:Cx}{pos:Pos}{keys:List (Option Expr)}{values:List Expr}{trs:List (TE×TE)}(h:Ci X pos keys values trs)(hall:keys.all (·.isSome)=true)(hl:keys.length=values.length)(h0:keys≠[])
  (h15:keys.length<=15):PE X (.Dict keys values pos) (Ag trs):=by
 intro pins s σ H Q I q
 have hn:=I.hok.fresh (Gc s.heap.objs.size)
 have I1:=I.laid (a:=s.heap.objs.size) (o:=.dK []) (h':=s.heap.push {cls:=.type "dict",data:=.dict #[]}) (t':=s.toks) (fun _ _ q=>FR _ q) (Gc _) (rj s.heap I.big)
 refine wpAny_Dict_walk (knd:=bQ X.prog X.w) hall hl h0 h15 (bx (h pins _ σ _ _ I1 (q _ hn)) fun ws s2 ⟨ps,H2,I2,rel,e,kvs,ep,lk,q2⟩=>?_)
 subst ep
 obtain⟨rs,c,rk⟩:=nR (P:=X.prog) (w:=X.w) rel
 obtain⟨z,hd,vs0,r0,dd⟩:=yt I2.hok e
 cases r0
 refine⟨rs,c,dd,fun h' dd' hs=>⟨.ref s.heap.objs.size,_,?_,rfl,q2⟩⟩
 have hz:(mH [] kvs).length<=sizeLine:=by
  have h1:=i_ kvs []
  rw[List.length_nil]at h1
  rw[sizeLine_eq];omega
 have he:∃q,h'.get? s.heap.objs.size=some q:=let ⟨q,_,_,hq,_⟩:=dd';⟨q,hq⟩
 exact md I2 (by rw[e];exact True.intro) hs he (ug hz hd (rk.merge .nil) dd')
structure M1(X:Cx)(o:Expr)(m:Str)(apos:Pos)(e:Expr)(cpos:Pos):Prop where
 base:attributeBase o m X.env (eval o X.env)=eval o X.env
 few:((backTo cpos (starEach [e] X.env)).all (fun x=>!x.1)&&(backToKw cpos (keywordEach [] X.env)).all (fun x=>x.1.isSome)
  && decide (([e]:List Expr).length+([]:List Keyword).length+(if([]:List Keyword).isEmpty then 0 else 1)<30))=true
 line:(apos.endLine==cpos.line)=true
 trees:backTo cpos (starEach [e] X.env)=[(false,eval e X.env)]
structure M2(X:Cx)(o:Expr)(m:Str)(apos:Pos)(e f:Expr)(cpos:Pos):Prop where
 base:attributeBase o m X.env (eval o X.env)=eval o X.env
 few:((backTo cpos (starEach [e,f] X.env)).all (fun x=>!x.1)&&(backToKw cpos (keywordEach [] X.env)).all (fun x=>x.1.isSome)
  && decide (([e,f]:List Expr).length+([]:List Keyword).length+(if([]:List Keyword).isEmpty then 0 else 1)<30))=true
 line:(apos.endLine==cpos.line)=true
 trees:backTo cpos (starEach [e,f] X.env)=[(false,eval e X.env),(false,eval f X.env)]
def DR(H:Hp)(a:Addr):Prop:=(∃kvs,Rd H a (.dK kvs))\/∃kvs,Rd H a (.dT kvs)
theorem AD{X:Cx}{pins:List (Addr×Obj)}{σ:St}{H:Hp}{s:Shared}{a:Addr}(I:aH X pins σ H s)(d:DR H a) :
  s.TypeIs (.ref a) "dict"/\(∀b,Value.ref a=.ref b->∃ob,s.heap.get? b=some ob/\ob.dict=none)/\(a==sysModules)=false:=by
 rcases d with⟨kvs,e⟩ | ⟨kvs,e⟩
 ·obtain⟨_,hd,vs,_,dd⟩:=pi I.hok e
  refine⟨dd.typeIs,fun b q=>?_,hd⟩
  cases q
  obtain⟨ob,_,_,h1,h2,_⟩:=dd
  exact⟨ob,h1,h2.2.1⟩
 ·obtain⟨_,hd,xs,_,dd⟩:=rA I.hok e
  refine⟨dd.typeIs,fun b q=>?_,hd⟩
  cases q
  obtain⟨ob,_,_,h1,h2,_⟩:=dd
  exact⟨ob,h1,h2.2.1⟩
section
variable {X:Cx}{pins:List (Addr×Obj)}{σ:St}{H:Hp}{s:Shared}{a:Addr}{y d:V}{u r:Value}{o:Option V}{A:Around}{E:Value->Shared->Prop}
end
section
variable {X:Cx}{o e f:Expr}{apos cpos:Pos}{td ty tx:TE}
end
section
variable {X:Cx}{pins:List (Addr×Obj)}{σ:St}{H:Hp}{s:Shared}{a:Addr}{kvs:List (cW×V)}{A:Around}{E:Value->Shared->Prop}
end
section
variable {X:Cx}{pins:List (Addr×Obj)}{σ:St}{H:Hp}{s:Shared}{a:Addr}{y:V}{u:Value}{A:Around}{E:Value->Shared->Prop}
end
end L2
namespace Att
open PySem PySem.W PySem.Calls PyProof.Rows
theorem l8{P:Params}{h:Heap}:∀(ns:List Int) (vs:List Value),WellAll P h vs (ns.map WData.int)->IntsAre vs ns:=by
 intro ns
 induction ns with
 |nil=>
  intro vs w
  rw[List.map_nil]at w
  cases w
  exact .nil
 |cons n ns ih=>
  intro vs w
  rw[Gk]at w
  cases w with
  |cons a b=>
   cases a
   exact .cons _ _ (ih _ b)
theorem wm{l:OpenLaw}{n:Nat}(hn:l.most=some n){P:Params}{h:Heap}{args:List WData}{vals:List Value}
  (hpre:l.row.toRowW.claim.pre args=true) (hwl:WellAll P h vals args) :
  ∃a vs ns,vals=[Value.ref a]/\args=[WData.list (ns.map WData.int)]/\h.get? a=some {cls:=.type "list",data:=.seq vs.toArray}/\IntsAre vs ns/\ns.length<=n:=by
 have hsh:WShape.hasAll [] args [.list .int]=true:=(pre_splitW hpre).1
 have hc:l.pre.holds [] {args:=args}=true:=(pre_splitW hpre).2
 obtain⟨d,r,rfl,h1,h2⟩:=hasAllW_cons hsh
 obtain rfl:=hasAllW_nil h2
 obtain⟨xs,rfl,h3⟩:=hasW_list h1
 obtain⟨ns,rfl⟩:=items_int h3
 have hlen:ns.length<=n:=by
  unfold OpenLaw.pre at hc
  have h4:(WTm.not (.lt (.lit (.int (n:Int))) (.len (.arg 0)))).holds [] {args:=[.list (ns.map .int)]}=true:=by
   have h4:=(holds_andW hc).1
   rw[hn]at h4
   exact h4
  have h5:=condW_of h4 (w_not (w_lt w_lit (w_len_list (w_arg rfl))))
  rw[FS]at h5
  refine Nat.le_of_not_lt fun q=>?_
  have q':(n:Int)<((ns.length:Nat):Int):=by omega
  first
   | (rw[decide_eq_true q']at h5;exact absurd h5 (by decide))
   | (simp at h5;omega)
 cases hwl with
 |cons w1 w2=>
  cases w2
  cases w1 with
  |list ho hall=>exact⟨_,_,ns,rfl,rfl,ho,l8 ns _ hall,hlen⟩
theorem wo(l:OpenLaw)(args:List WData):l.row.toRowW.claim.post args (.bool true) args=true:=
 postW_of (r:=l.row.toRowW) (X:=(true==true))
  (show WShape.has [] (.bool true) .bool=true by first | rfl | decide | simp[WShape.has,WShape.arms,WShape.armsAll])
  (show(WTm.eq .res (.lit (.bool true))).value [] {args:=args,res:=some (.bool true),after:=args}=some (.bool (true==true)) from w_eq_bool (w_res rfl) w_lit) rfl
theorem attach_call{l:OpenLaw}{n:Nat}{q:Program}{loose:List Str}{XP:(Str->Option Value)->Heap->Prop}{YP:World->Heap->Prop}{d:DefRec}
  (hn:l.most=some n) (hdf:d.params.defaults=[])
  (call:∀(w:World) (s₀ s₁:Shared) (mg mb:Str->Option Value) (fa:Addr) (o:Obj) (pm cd doc:Value) (a:Addr) (vs:List Value) (ns:List Int),
   Ground q loose [] XP w s₀ mg mb s₁.heap->YP w s₁.heap ->
   s₁.heap.get? fa=some o->o.data=.func (docDef d.name d.params d.body d.scope pm cd doc)->s₁.heap.CodeRec cd d.name->mg d.name=some (.ref fa) ->
   s₁.heap.get? a=some {cls:=.type "list",data:=.seq vs.toArray}->IntsAre vs ns->ns.length<=n->s₁.gens=#[] ->
   codeAny (model l.prog w) callerA (.call (.ref fa) ⟨[.ref a],[]⟩) (fun r s'=>r=.ok (.ret (.bool true))/\OldK s₁.heap s'.heap/\s'.os=s₁.os/\AllBare s'.gens) s₁) :
  WalkO q loose XP YP l.row.toRowW d [] (fun f vs=>PySem.call f vs):=by
 intro w s₀ s₁ mg mb G Y fa o pm cd doc dV kV ho hd hcd hD hmg hg args vals as hpre hlay hrd hwl hlo
 obtain rfl:dV=.none:=Dflts.none hD hdf
 obtain rfl:kV=.none:=Dflts.noKw hD
 obtain⟨a,vs,ns,rfl,rfl,hobj,hints,hlen⟩:=wm hn hpre hwl
 refine enter_call (codeAny_mono (call w s₀ s₁ mg mb fa o pm cd doc a vs ns G Y ho (fd_plain hd) hcd hmg hobj hints hlen hg) fun r s' hq=>?_)
 obtain⟨rfl,h2,h3,h4⟩:=hq
 exact⟨.inl ⟨.bool true,.bool true,[],rfl,fun _=>rfl,.bool true,wo l _,fun _=>⟨List.Pairwise.nil,fun _ hm=>(nomatch hm)⟩⟩,h2,h3,h4⟩
section
variable {prog:Program}{w:World}{A:Around}{E:Value->Shared->Prop}{s:Shared}{K:Frag}
def Cp(h:Heap)(L d:Addr):List (Addr×Obj):=(List.range h.objs.size).filterMap fun a=>if a=L\/a=d then none else(h.get? a).map fun o=>(a,o)
end
end Att
namespace L2
open PySem PySem.Spec PyProof.Rows
theorem oO:∀{vs:List Value} {ns:List Int},IntsAre vs ns->aS (ns.map V.int) vs
 |_,_,.nil=>.nil
 |_,_,.cons n t h=>.cons ⟨t,rfl⟩ (oO h)
def A4(H:Hp):Prop:=∀b,H b=none\/∃o xs,H b=some (.frz o (.lst xs))
theorem yC{P:Program}{w:World}{K:PySem.W.Frag}{mg mb:Str->Option Value}{CX:jH}{k:Nat}{fa a:Addr}{fd:FuncData}{x:Str}{sp:Sp}{s₁:Shared}{vs:List Value}{ns:List Int}
  (KX:K.In s₁.heap) (hns:s₁.heap.Ns mainGlobals mg) (hb:s₁.heap.Ns builtinsNs mb) (hbb:∀x:Str,x≠"__name__"->mb x=bootBuiltins x) (hlim:s₁.heap.NoLimit) (hg:s₁.gens=#[])
  (ha:s₁.heap.get? a=some {cls:=.type "list",data:=.seq vs.toArray}) (hi:IntsAre vs ns) (hl:ns.length<=sizeLine) (hr:cI k callerA)
  (F:∀base:Heap,K.In base->base.Ns mainGlobals mg->bb P w K mg base CX k fa fd [x] sp) (hbind:∀(s:Shared) (u:Value),BindsTo s fd ⟨[u],[]⟩ [(x,u)])
  (hsp:∀H:Hp,A4 H->aT K H a (ns.map V.int)->sp [.ref a] H (fun v _=>v=.bl true) fun _ _ _=>False)
  (hCX:∀H e s',CX [] H s₁ (fun _ _ _=>False) e s'->False) :
  codeAny (model P w) callerA (.call (.ref fa) ⟨[.ref a],[]⟩) (fun r s'=>r=.ok (.ret (.bool true))/\OldK s₁.heap s'.heap/\s'.os=s₁.os/\AllBare s'.gens) s₁:=by
 have rv:=oO hi
 have lenV:=hi.length
 -- from an abstract heap in which nothing but the script may be tracked
 have core:∀H:Hp,A4 H->aT K H a (ns.map V.int)->i5 P w H s₁.heap->(∀b,H b≠none->b=a)->(H a≠none->K.lookup a=none) ->
   codeAny (model P w) callerA (.call (.ref fa) ⟨[.ref a],[]⟩) (fun r s'=>r=.ok (.ret (.bool true))/\OldK s₁.heap s'.heap/\s'.os=s₁.os/\AllBare s'.gens) s₁:=by
  intro H hO hS hok hA hK
  have base_of:∀{b:Addr} {o:Obj},s₁.heap.get? b=some o->H b=none->(pW s₁.heap H).get? b=some o:=fun e n=>wM e n
  have noA:∀{b:Addr} {o:Obj} {es:Array DictEntry} {ep:Nat},s₁.heap.get? b=some o->o.data=.dict es ep->H b=none:=fun{b o es ep} e d=>by
   cases q:H b with
   |none=>rfl
   |some u=>
    have e':b=a:=hA b (by rw[q];simp)
    subst e'
    rw[ha]at e;cases e
    have d':Data.seq vs.toArray _=Data.dict es ep:=d
    cases d'
  have nsK:∀{b:Addr} {m:Str->Option Value},s₁.heap.Ns b m->(pW s₁.heap H).Ns b m:=fun{b m} ⟨o,es,ep,e,d,r⟩=>⟨o,es,ep,base_of e (noA e d),d,r⟩
  have hKb:K.In (pW s₁.heap H):=fun b o e=>base_of (KX b o e) (by
   cases q:H b with
   |none=>rfl
   |some u=>
    have e':b=a:=hA b (by rw[q];simp)
    subst e'
    rw[hK (by rw[q];simp)]at e;cases e)
  have hM:Mod K mg (pW s₁.heap H):=⟨hKb,nsK hns,⟨mb,nsK hb,hbb⟩,let ⟨mc,h1,h2⟩:=hlim;⟨mc,nsK h1,h2⟩⟩
  have e0:rJ P w K mg (pW s₁.heap H) callerA [] s₁ H:=⟨rfl,hM,fun b o e=>yY e,Nat.le_of_eq (wD _ _),trivial,fun b hb=>absurd (show b∈([]:List Addr) from hb) (by simp),hok,.of_eq hg⟩
  refine codeAny_mono ((F _ hKb (nsK hns)).run callerA [] s₁ H ⟨[.ref a],[]⟩ [.ref a] [.ref a] _ _ hr e0 (hbind s₁ (.ref a)) (.cons rfl .nil) (hsp H hO hS)) fun r s' h=>?_
  cases r with
  |error e=>exact(hCX H e s' h).elim
  |ok fl=>
   cases fl with
   |next=>exact False.elim h
   |brk=>exact False.elim h
   |cont=>exact False.elim h
   |ret u=>
    obtain⟨v,H',os,bare,un,hok',r',q⟩:=h
    have q':v=.bl true:=q
    subst q'
    obtain rfl:u=Value.bool true:=r'
    refine⟨rfl,OldK.of_keep fun b o e=>?_,os,bare⟩
    cases q:H b with
    |none=>exact un.keep b o e q (by intro z;exact absurd (show b∈([]:List Addr) from z) (by simp)) (by simp)
    |some u=>
     rcases hO b with z | ⟨ob,xs,z⟩
     ·rw[q]at z;cases z
     ·have z2:=un.frzs b ob _ z
      obtain⟨e1,_⟩:=hok b _ z
      obtain⟨e2,_⟩:=hok' b _ z2
      rw[e]at e1;cases e1
      exact e2
 cases hk:K.lookup a with
 |some o=>
  -- the script is one of the module's own objects
  have e:=KX a o hk
  rw[ha]at e
  cases e
  refine core (fun _=>none) (fun _=>.inl rfl) (.inr ⟨_,vs.toArray,_,hk,rfl,rfl,rfl,by rw[FY,lenV];exact hl,by simpa using rv⟩) (fun b u z=>by have z':(none:Option HO)=some u:=z;cases z') (fun b z=>absurd rfl z) fun z=>absurd rfl z
 |none=>
  refine core (fun b=>if b=a then some (.frz {cls:=.type "list",data:=.seq vs.toArray} (.lst (ns.map V.int))) else none) (fun b=>?_) (.inl (.inr ⟨{cls:=.type "list",data:=.seq vs.toArray},if_pos rfl⟩)) (fun b u z=>?_) (fun b z=>?_) fun _=>hk
  ·by_cases hb:b=a
   ·exact .inr ⟨_,_,if_pos hb⟩
   ·exact .inl (if_neg hb)
  ·by_cases hb:b=a
   ·have z':=(if_pos hb).symm.trans z
    cases z'
    subst hb
    exact⟨ha,by rw[FS];exact hl,vs,_,rv,ha⟩
   ·have z':=(if_neg hb).symm.trans z
    cases z'
  ·by_cases hb:b=a
   ·exact hb
   ·exact absurd (if_neg hb) z
theorem walk_of{l:PySem.W.OpenLaw}{n k:Nat}{q:Program}{loose:List Str}{XP:(Str->Option Value)->Heap->Prop}{YP:World->Heap->Prop}{d:DefRec}{K:Params->PySem.W.Frag}{CX:World->jH}{sp:World->Sp}{x:Str}
  (hn:l.most=some n) (hn2:n<=sizeLine) (hdf:d.params.defaults=[]) (hr:cI k callerA)
  (hY:∀(w:World) (h:Heap),YP w h->(K w.params).In h)
  (F:∀(w:World) (mg:Str->Option Value) (fa:Addr) (h:Heap),(K w.params).In h->h.Ns mainGlobals mg->mg d.name=some (.ref fa) ->
   ∃fd:FuncData,(∀(s:Shared) (u:Value),BindsTo s fd ⟨[u],[]⟩ [(x,u)]) /\
    ∀base:Heap,(K w.params).In base->base.Ns mainGlobals mg->bb l.prog w (K w.params) mg base (CX w) k fa fd [x] (sp w))
  (hsp:∀(w:World) (H:Hp) (a:Addr) (ns:List Int),ns.length<=n->A4 H->aT (K w.params) H a (ns.map V.int)->sp w [.ref a] H (fun v _=>v=.bl true) fun _ _ _=>False)
  (hCX:∀(w:World) (H:Hp) (s:Shared) (e:Value) (s':Shared),CX w [] H s (fun _ _ _=>False) e s'->False) :
  PySem.W.WalkO q loose XP YP l.row.toRowW d [] (fun f vs=>PySem.call f vs):=by
 refine Att.attach_call hn hdf fun w s₀ s₁ mg mb fa o pm cd doc a vs ns G Y ho hd hcd hmg hobj hints hlen hg=>?_
 have KX:=hY w _ Y
 obtain⟨fd,hb,hF⟩:=F w mg fa _ KX G.T.g hmg
 exact yC KX G.T.g G.T.b G.T.builtins G.T.nolimit hg hobj hints (Gn hlen hn2) hr hF hb (fun H hO hS=>hsp w H a ns hlen hO hS) fun H e s'=>hCX w H s₁ e s'
def bF(s:Stmt):Arguments:=match s with
 | .FunctionDef _ a _ _ _ _ _ _ _ _=>a
 |_=>{posonlyargs:=[],args:=[],vararg:=none,kwonlyargs:=[],kw_defaults:=[],kwarg:=none,defaults:=[]}
def bv(s:Stmt):List Stmt:=match s with
 | .FunctionDef _ _ b _ _ _ _ _ _ _=>b
 |_=>[]
def ao(s:Stmt):Scope:=match s with
 | .FunctionDef _ _ _ _ _ _ sc _ _ _=>sc
 |_=>{kind:=.function,names:=[],isGenerator:=false,isCoroutine:=false}
abbrev bL:jH:=fun _ _ _ _ _ _=>False
abbrev E0:XK:=fun _ _ _=>False
theorem a_{X:Cx}:cn bL X E0:=fun _ _ _ _ _ _ _ h=>h.elim
structure d9(K:PySem.W.Frag)(x qual:Str)(st:Stmt)(f:Addr)(fd:FuncData):Prop where
 ex:∃(oc:Value) (od:Option Addr) (kV doc pm:Value) (an:Option Addr) (cdv ct:Value) (osl:Array (Option Value)),
  fd=PySem.W.fnOf x qual (bF st) (bv st) (ao st) .none kV doc pm an cdv ct/\K.lookup f=some ⟨oc,od,.func fd,osl⟩/\PySem.W.codeIn K cdv qual=true
 kp:PySem.W.keepIn K (.ref f)=true
section
variable {P:Program}{w:World}{K:PySem.W.Frag}{mg:Str->Option Value}{base:Heap}
theorem d9.ok{x qual:Str}{st:Stmt}{f:Addr}{fd:FuncData}{N ps:List Str}{k:Nat}{sp:Sp}(F:d9 K x qual st f fd)(S:aI N ps (ao st))(len:∀vs H Q E,sp vs H Q E->vs.length=ps.length)
  (hbody:∀(cdv:Value) (A:Around) (outer:List Env) (s:Shared) (H:Hp) (vs:List V) (Q:VK) (E:XK),cI k (A.deeper (envOfC qual (ao st) s.heap.objs.size f cdv))->sp vs H Q E ->
   ∃t,qV (fq bL P w K mg base N qual (ao st) f cdv A outer s H E).nox (bv st) t/\t {nx:=fun _ H'=>Q .non H',rt:=Q} (start N vs) H):bb P w K mg base bL (k+1) f fd ps sp:=by
 obtain⟨oc,od,kV,doc,pm,an,cdv,ct,osl,rfl,lk,hcd⟩:=F.ex
 refine Aa lk hcd S len fun A outer s H vs Q E hr hsp=>?_
 obtain⟨t,h,q⟩:=hbody cdv A outer s H vs Q E hr hsp
 exact⟨t,h.nox,q⟩
theorem d9.binds{x qual:Str}{st:Stmt}{f:Addr}{fd:FuncData}{ps:List Str}(F:d9 K x qual st f fd)
  (h:∀(kV doc pm:Value) (an:Option Addr) (cdv ct:Value) (us:List Value),us.length=ps.length->bindArgs (PySem.W.fnOf x qual (bF st) (bv st) (ao st) .none kV doc pm an cdv ct) ⟨us,[]⟩=pure (ps.zip us)):dq K fd ps []:=by
 obtain⟨oc,od,kV,doc,pm,an,cdv,ct,osl,rfl,lk,hcd⟩:=F.ex
 exact .all (h kV doc pm an cdv ct)
theorem dE{x qual:Str}{st:Stmt}{f:Addr}{oc:Value}{od an:Option Addr}{osl:Array (Option Value)}{kV doc pm cdv ct:Value}(l:K.lookup f=some ⟨oc,od,.func (PySem.W.fnOf x qual (bF st) (bv st) (ao st) .none kV doc pm an cdv ct),osl⟩)
  (c:PySem.W.codeIn K cdv qual=true) (k:PySem.W.keepIn K (.ref f)=true):d9 K x qual st f (PySem.W.fnOf x qual (bF st) (bv st) (ao st) .none kV doc pm an cdv ct):=⟨⟨oc,od,kV,doc,pm,an,cdv,ct,osl,rfl,l,c⟩,k⟩
end
section
variable {X:Cx}
theorem pv(i:Nat){x:Str}{pos:Pos}(hN:X.N[i]?=some x:=by rfl)(hv:DB X.env.scope x:=by first | exact Or.inl rfl | exact Or.inr (Or.inl rfl) | exact Or.inr (Or.inr rfl))(hd:(x==("__debug__":Str))=false:=by decide)
  (hcd:(x==("__classdict__":Str))=false:=by decide):PE X (.Name x pos) (b5 i):=Av hN hv hd hcd
theorem pf:fu X (.builtin "len") (fun xs H Q=>∃a kvs,xs=[V.ref a]/\H a=some (.dK kvs)/\Q (.int kvs.length) H):=by
 intro pins s σ H xs us Q I r h
 obtain⟨a,kvs,rfl,ha,q⟩:=h
 obtain⟨u,rfl,ru⟩:=oQ r
 cases ru
 exact B8 I (.inl ha) fun t s' I'=>⟨.int kvs.length,H,I',⟨t,rfl⟩,q⟩
end
def aq(H H':Hp):Prop:=∀b o,H b=some o->H' b=some o
theorem aq.refl(H:Hp):aq H H:=fun _ _ h=>h
theorem aq.trans{H H1 H2:Hp}(a:aq H H1)(b:aq H1 H2):aq H H2:=fun c o h=>b c o (a c o h)
theorem aq.free{H H':Hp}(e:aq H H'){l:Addr}(h:H' l=Option.none):H l=Option.none:=by
 cases q:H l with
 |none=>rfl
 |some o=>
  rw[e l o q]at h
  cases h
theorem aq.seq{K:PySem.W.Frag}{H H':Hp}{a:Addr}{xs:List V}(e:aq H H')(h:aT K H a xs):aT K H' a xs:=by
 rcases h with(h | ⟨o,h⟩) | h
 ·exact .inl (.inl (e _ _ h))
 ·exact .inl (.inr ⟨o,e _ _ h⟩)
 ·exact .inr h
section
variable {κ:Type}[DecidableEq κ]
theorem xS{kvs:List (κ×V)}{k:κ}(h:cj kvs k=none):¬ k∈kvs.map (·.1):=by
 intro m
 obtain⟨p,hp,e⟩:=GA.mp m
 have q:(kvs.any fun kv=>decide (kv.1=k))=true:=List.any_eq_true.mpr ⟨p,hp,decide_eq_true e⟩
 rw[fU,h]at q
 exact absurd q (by simp)
end
end L2
namespace PySem
open Sem (wp)
open Builtin Builtin.Str Builtin.Int
namespace F
end F
section
variable {prog:Program}{w:World}{A:Around}{E:Value->Shared->Prop}{s:Shared}
end
namespace F
end F
section
variable {prog:Program}{w:World}{A:Around}{E:Value->Shared->Prop}{s:Shared}
end
end PySem
namespace L2
open PySem PySem.Spec PyProof.Rows
def d8(env:Env):List (Str×NameKind)->List (Str×Addr)->List (Str×Addr)
 | [],acc=>acc
 | (n,k)::r,acc=>if k==.free then d8 env r ((n,(env.cells.lookup n).getD 0)::acc) else d8 env r acc
theorem lX{env:Env}:∀(ns:List (Str×NameKind)) (acc:List (Str×Addr)),(∀x∈ns,x.2=.free->∃c,env.cells.lookup x.1=some c) ->
  (forIn ns acc fun(x:Str×NameKind) (cs:List (Str×Addr))=>(if x.2==.free then do
    let c <- cellOf env x.1
    pure (ForInStep.yield ((x.1,c)::cs))
   else pure (ForInStep.yield cs):Sem (ForInStep (List (Str×Addr)))))=pure (d8 env ns acc)
 | [],acc,_=>rfl
 | (n,k)::r,acc,h=>by
  have ih:=fun a=>lX (env:=env) r a fun x hx=>h x (F7 _ hx)
  rw[List.forIn_cons]
  by_cases hk:k=.free
  ·subst hk
   obtain⟨c,hc⟩:=h (n,.free) List.mem_cons_self rfl
   have hc':env.cells.lookup n=some c:=hc
   have e1:cellOf env n=pure c:=by unfold cellOf;rw[hc']
   simp only[d8,hc',Option.getD_some]
   show((do let c <- cellOf env n;pure (ForInStep.yield ((n,c)::acc))) >>= _)=_
   rw[e1,pure_bind,pure_bind]
   exact ih _
  ·have e2:(k==NameKind.free)=false:=by simpa using hk
   simp only[d8,e2,Bool.false_eq_true,if_false]
   rw[pure_bind]
   exact ih _
theorem iA{env:Env}{scope:Scope}(h:∀x∈scope.names,x.2=.free->∃c,env.cells.lookup x.1=some c) :
  closureFor scope env=pure (d8 env scope.names []):=by
 unfold closureFor
 have e:=lX (env:=env) scope.names [] h
 have e2:(forIn scope.names ([]:List (Str×Addr)) fun x cs=>(match x with
   | (name,kind)=>if kind==.free then do
     let c <- cellOf env name
     pure (ForInStep.yield ((name,c)::cs))
    else pure (ForInStep.yield cs):Sem (ForInStep (List (Str×Addr)))))=pure (d8 env scope.names []):=e
 simp only[]at e2 ⊢
 first
  | (rw[e2];rfl)
  | (erw [e2];rfl)
theorem gJ{env:Env}:∀{ns:List (Str×NameKind)} {acc:List (Str×Addr)} {x:Str} {c:Addr},(∀y∈ns,y.2=.free->∃c,env.cells.lookup y.1=some c) ->
  (∀y c,acc.lookup y=some c->env.cells.lookup y=some c)->(d8 env ns acc).lookup x=some c->env.cells.lookup x=some c
 | [],_,_,_,_,ha,e=>ha _ _ e
 | (n,k)::r,acc,x,c,h,ha,e=>by
  have hr:∀y∈r,y.2=.free->∃c,env.cells.lookup y.1=some c:=fun y hy=>h y (F7 _ hy)
  unfold d8 at e
  by_cases hk:k=.free
  ·subst hk
   rw[if_pos (by simp)]at e
   obtain⟨c',hc⟩:=h (n,.free) List.mem_cons_self rfl
   have hc':env.cells.lookup n=some c':=hc
   refine gJ hr (fun y d z=>?_) e
   rw[hc',Option.getD_some,List.lookup_cons]at z
   by_cases q:y=n
   ·subst q
    simp at z
    subst z
    exact hc'
   ·have q':(y==n)=false:=by simpa using q
    rw[q']at z
    exact ha y d z
  ·rw[if_neg (by simpa using hk)]at e
   exact gJ hr ha e
theorem mi{env:Env}:∀{ns:List (Str×NameKind)} {acc:List (Str×Addr)} {x:Str},((∃c,acc.lookup x=some c)\/(x,NameKind.free)∈ns)->∃c,(d8 env ns acc).lookup x=some c
 | [],_,_,h=>by
  rcases h with h | h
  ·exact h
  ·exact nomatch h
 | (n,k)::r,acc,x,h=>by
  unfold d8
  by_cases hk:k=.free
  ·subst hk
   rw[if_pos (by simp)]
   refine mi ?_
   by_cases q:x=n
   ·subst q
    left
    simp[List.lookup_cons]
   ·have q':(x==n)=false:=by simpa using q
    rcases h with⟨c,h⟩ | h
    ·exact .inl ⟨c,by rw[List.lookup_cons,q'];exact h⟩
    ·rcases F6.mp h with z | z
     ·cases z
      exact absurd rfl q
     ·exact .inr z
  ·rw[if_neg (by simpa using hk)]
   refine mi ?_
   rcases h with h | h
   ·exact .inl h
   ·rcases F6.mp h with z | z
    ·cases z
     exact absurd rfl hk
    ·exact .inr z
def rQ(scope osc:Scope):Scope:=
 {scope with names:=scope.names.map fun(n,k)=>if(k==.free&&osc.kind==.function&&osc.names.lookup n==some .cell) then(n,.cell) else(n,k)}
def wZ(scope osc:Scope):Bool:=
 (scope.kind==.function)&&(osc.kind==.function)&&scope.names.all fun(n,k)=>(k != .free || !scope.names.contains (n,NameKind.cell))&&(k != .local||scope.names.lookup n==some .local) &&
  (k != .free||osc.names.lookup n==some .cell||osc.names.lookup n==some .free)&&(k != .free||(rQ scope osc).names.lookup n != some .local)
structure bz(scope osc:Scope):Prop where
 kind:scope.kind=.function
 sep:∀x∈scope.names,x.2=.free->(x.1,NameKind.cell)∉scope.names
 loc:∀x∈scope.names,x.2=.local->scope.names.lookup x.1=some .local
 free:∀x∈scope.names,x.2=.free->osc.names.lookup x.1=some .cell\/osc.names.lookup x.1=some .free
 nl:∀x∈scope.names,x.2=.free->(rQ scope osc).names.lookup x.1≠some .local
theorem bz.of{scope osc:Scope}(h:wZ scope osc=true):bz scope osc:=by
 unfold wZ at h
 rw[Bool.and_eq_true,Bool.and_eq_true,GB]at h
 obtain⟨⟨h1,h0⟩,h2⟩:=h
 refine⟨by simpa using h1,fun x hx e=>?_,fun x hx e=>?_,fun x hx e=>?_,fun x hx e=>?_⟩
 all_goals
  obtain⟨n,k⟩:=x
  have q:=h2 (n,k) hx
  simp only[Bool.and_eq_true,Bool.or_eq_true,bne_iff_ne,beq_iff_eq]at q
 ·have z:=q.1.1.1.resolve_left (fun z=>z e)
  simpa using z
 ·exact q.1.1.2.resolve_left (fun z=>z e)
 ·rcases q.1.2 with(z | z) | z
  ·exact absurd e z
  ·exact .inl z
  ·exact .inr z
 ·exact q.2.resolve_left (fun z=>z e)
theorem fj{osc:Scope}:∀{ns:List (Str×NameKind)} {x:Str} {k':NameKind},
  (ns.map fun(n,k)=>if(k==NameKind.free&&osc.kind==.function&&osc.names.lookup n==some .cell) then(n,NameKind.cell) else(n,k)).lookup x=some k' ->
  (k'=.cell\/k'=.free)->(x,NameKind.free)∈ns\/(x,NameKind.cell)∈ns
 | [],_,_,h,_=>by simp at h
 | (n,k)::r,x,k',h,hk'=>by
  rw[Gk]at h
  by_cases q:x=n
  ·subst q
   by_cases z:(k==NameKind.free&&osc.kind==.function&&osc.names.lookup x==some .cell)=true
   ·have:k=.free:=by
     simp only[Bool.and_eq_true,beq_iff_eq]at z
     exact z.1.1
    subst this
    exact .inl List.mem_cons_self
   ·simp only[z,Bool.false_eq_true,if_false]at h
    rw[List.lookup_cons]at h
    simp at h
    subst h
    rcases hk' with e | e
    ·subst e;exact .inr List.mem_cons_self
    ·subst e;exact .inl List.mem_cons_self
  ·have q':(x==n)=false:=by simpa using q
   refine(fj (osc:=osc) (k':=k') (ns:=r) (x:=x) ?_ hk').imp (F7 _) (F7 _)
   by_cases z:(k==NameKind.free&&osc.kind==.function&&osc.names.lookup n==some .cell)=true
   ·simp only[z,if_true]at h
    rw[List.lookup_cons,q']at h
    exact h
   ·simp only[z,Bool.false_eq_true,if_false]at h
    rw[List.lookup_cons,q']at h
    exact h
theorem iz:∀(ns:List (Str×NameKind)) (n:Nat) (acc:List (Str×Addr)),cellsFrom n ns acc=cellsFrom n ns []++acc
 | [],_,_=>rfl
 | (x,k)::r,n,acc=>by
  unfold cellsFrom
  split
  ·rw[iz r (n+1) ((x,n)::acc),iz r (n+1) [(x,n)],Gs];rfl
  ·exact iz r n acc
theorem pQ:∀{ns:List (Str×NameKind)} {n:Nat} {x:Str} {c:Addr},(x,c)∈cellsFrom n ns []->(x,NameKind.cell)∈ns
 | [],_,_,_,h=>nomatch h
 | (y,k)::r,n,x,c,h=>by
  unfold cellsFrom at h
  split at h
  ·rename_i hk
   rw[iz]at h
   rcases F4.mp h with h | h
   ·exact F7 _ (pQ h)
   ·cases FT.mp h
    have:k=.cell:=by simpa using hk
    subst this
    exact List.mem_cons_self
  ·exact F7 _ (pQ h)
theorem qQ:∀{ns:List (Str×NameKind)} {n:Nat} {x:Str} {acc:List (Str×Addr)},((x,NameKind.cell)∈ns\/∃c,acc.lookup x=some c)->∃c,(cellsFrom n ns acc).lookup x=some c
 | [],_,_,_,h=>h.elim (fun z=>nomatch z) id
 | (y,k)::r,n,x,acc,h=>by
  unfold cellsFrom
  split
  ·refine qQ ?_
   by_cases q:x=y
   ·subst q
    exact .inr ⟨n,by simp[List.lookup_cons]⟩
   ·have q':(x==y)=false:=by simpa using q
    rcases h with h | ⟨c,h⟩
    ·rcases F6.mp h with z | z
     ·cases z;exact absurd rfl q
     ·exact .inl z
    ·exact .inr ⟨c,by rw[List.lookup_cons,q'];exact h⟩
  ·rename_i hk
   refine qQ ?_
   rcases h with h | h
   ·rcases F6.mp h with z | z
    ·cases z;exact absurd rfl hk
    ·exact .inl z
   ·exact .inr h
def dy(env:Env)(scope:Scope)(C:Addr):List (Str×Addr):=cellsFrom (C+1) scope.names (d8 env scope.names [])
theorem kf:∀{ns:List (Str×NameKind)} {n:Nat} {x:Str} {c:Addr},(x,c)∈cellsFrom n ns []->n<=c
 | [],_,_,_,h=>nomatch h
 | (y,k)::r,n,x,c,h=>by
  unfold cellsFrom at h
  split at h
  ·rw[iz]at h
   rcases F4.mp h with h | h
   ·exact Gn (Nat.le_succ _) (kf h)
   ·cases FT.mp h
    exact Gc _
  ·exact kf h
theorem m7:∀{ns:List (Str×NameKind)} {n:Nat},(cellsFrom n ns []).Pairwise fun x y=>x.2≠y.2
 | [],_=>List.Pairwise.nil
 | (y,k)::r,n=>by
  unfold cellsFrom
  split
  ·rw[iz]
   refine List.pairwise_append.mpr ⟨m7,by simp,fun a ha b hb e=>?_⟩
   cases FT.mp hb
   have:=kf (x:=a.1) (c:=a.2) ha
   rw[e]at this
   exact absurd this (Nat.not_succ_le_self _)
  ·exact m7
theorem hV{env:Env}{scope:Scope}{C:Addr}{x:Str}{c:Addr}(h:(dy env scope C).lookup x=some c) :
  ((x,c)∈cellsFrom (C+1) scope.names []/\C<c/\(x,NameKind.cell)∈scope.names)\/((cellsFrom (C+1) scope.names []).lookup x=none/\(d8 env scope.names []).lookup x=some c):=by
 unfold dy at h
 rw[iz,List.lookup_append]at h
 cases q:(cellsFrom (C+1) scope.names []).lookup x with
 |none=>rw[q]at h;exact .inr ⟨rfl,h⟩
 |some d=>
  rw[q]at h
  cases h
  have:=mem_of_lookup q
  exact .inl ⟨this,kf this,pQ this⟩
theorem yI{ns:List (Str×NameKind)}{n:Nat}{x:Str}(h:(x,NameKind.cell)∉ns):(cellsFrom n ns []).lookup x=none:=by
 cases q:(cellsFrom n ns []).lookup x with
 |none=>rfl
 |some d=>exact absurd (pQ (mem_of_lookup q)) h
section
variable {M:Model}{A:Around}{E:Value->Shared->Prop}{s:Shared}
theorem eO{scope:Scope}{globals:Addr}{closure:List (Str×Addr)}{qual:Str}{func:Option Addr}{code:Value}{outer:Env}{builtins:Addr}{Q:Env->Shared->Prop}
  (hQ:Q (newEnv scope s.heap.objs.size globals (cellsFrom (s.heap.objs.size+1) scope.names closure) qual func code (some outer) builtins) {s with heap:=pushCells (s.heap.push {cls:=.type "dict",data:=.dict #[]}) scope.names}) :
  wpAny M A (newFunctionEnv scope globals closure [] qual func code (some outer) builtins) Q E s:=by
 simp only[newFunctionEnv,Option.isSome_some,if_true]
 simp only[newEnv]at hQ
 refine wpAny_bind (wpAny_alloc ?_)
 refine wpAny_bind (wpAny_layCells _ (fun name kind cells=>by cases hkc:kind==NameKind.cell<;>simp[hkc]) _ _ _ _ ?_)
 rw[show({s with heap:=s.heap.push {cls:=.type "dict",data:=.dict #[]} }:Shared).heap.objs.size=s.heap.objs.size+1 from Heap.size_push ..]
 rw[List.forIn_nil]
 exact wpAny_bind (wpAny_pure (wpAny_pure hQ))
end
def Cx.blk(X:Cx)(N':List Str)(s₂:Shared)(H₂:Hp)(scope:Scope)(fp:List Addr)(C:Addr):Cx where
 prog:=X.prog
 w:=X.w
 K:=X.K
 mg:=X.mg
 base:=X.base
 A:=X.A
 N:=N'
 s₀:=s₂
 H₀:=H₂
 env:=compEnvC scope (dy X.env scope C) C X.env
 outer:=X.stack
 stack:=X.stack
 ex:=fp
 fn:=fun x=>scope.names.contains (x,NameKind.cell)
 calm:=X.calm
 pn:=[]
 xe:=fun _ _=>False
def rm(k:Nat)(js:List Nat)(σ:St):St:=List.replicate k none++js.map fun j=>(σ[j]?).join
def m6(own:List Str)(js:List Nat)(N:List Str):List Str:=own++js.map fun j=>N.getD j Str.empty
section
variable {X:Cx}
theorem aH.capFree{pins:List (Addr×Obj)}{σ:St}{H:Hp}{s:Shared}{scope:Scope}(I:aH X pins σ H s)(hk:bz scope X.env.scope):∀x∈scope.names,x.2=.free->∃c,X.env.cells.lookup x.1=some c:=
 fun x hx e=>I.ok.has x.1 (hk.free x hx e)
theorem aH.capL{pins:List (Addr×Obj)}{σ:St}{H:Hp}{s:Shared}{scope:Scope}{x:Str}{c:Addr}(I:aH X pins σ H s)(hk:bz scope X.env.scope)(e:(d8 X.env scope.names []).lookup x=some c):X.env.cells.lookup x=some c:=
 gJ (I.capFree hk) (fun _ _ z=>by simp at z) e
theorem aH.blkL{pins:List (Addr×Obj)}{σ:St}{H:Hp}{s:Shared}{scope:Scope}{C:Addr}{x:Str}{c:Addr}(I:aH X pins σ H s)(hk:bz scope X.env.scope)(e:(dy X.env scope C).lookup x=some c) :
  ((x,c)∈cellsFrom (C+1) scope.names []/\C<c/\(x,NameKind.cell)∈scope.names)\/X.env.cells.lookup x=some c:=
 (hV e).imp id fun z=>I.capL hk z.2
theorem A6{pins:List (Addr×Obj)}{σ:St}{H:Hp}{s:Shared}{N':List Str}{scope:Scope}{fp:List Addr}{C:Addr}(I:aH X pins σ H s)(hk:bz scope X.env.scope)(hC:s.heap.objs.size<=C)
  (hf:∀b∈fp,ma X pins H b) (ho:∀b∈fp,∃o,s.heap.get? b=some o):(X.blk N' s H scope fp C).Ok where
 mod:=I.ok.mod
 kind:=hk.kind
 glob:=I.ok.glob
 blt:=I.ok.blt
 above:=hC
 inj:=fun x y c e1 e2=>by
  have low:∀z,X.env.cells.lookup z=some c->c<C:=fun z e=>by
   obtain⟨v,q⟩:=I.cell z c e
   exact F9 q.lt hC
  rcases I.blkL hk e1 with⟨a1,a2,_⟩ | a<;>rcases I.blkL hk e2 with⟨b1,b2,_⟩ | b
  ·exact name_of_addr m7 a1 b1
  ·exact absurd (low _ b) (Nat.not_lt.mpr (Nat.le_of_lt a2))
  ·exact absurd (low _ a) (Nat.not_lt.mpr (Nat.le_of_lt b2))
  ·exact I.ok.inj x y c a b
 has:=fun x h=>by
  refine qQ ?_
  have z:(x,NameKind.free)∈scope.names\/(x,NameKind.cell)∈scope.names:=by
   rcases h with h | h
   ·exact fj (osc:=X.env.scope) h (.inl rfl)
   ·exact fj (osc:=X.env.scope) h (.inr rfl)
  rcases z with z | z
  ·exact .inr (mi (.inr z))
  ·exact .inl z
 cab:=fun x c z e=>by
  have z':(x,NameKind.cell)∈scope.names:=by
   have z2:scope.names.contains (x,NameKind.cell)=true:=z
   simpa using z2
  have e':(dy X.env scope C).lookup x=some c:=e
  rcases hV e' with⟨_,a,_⟩ | ⟨a,_⟩
  ·exact Gn hC (Nat.le_of_lt a)
  ·obtain⟨d,q⟩:=qQ (n:=C+1) (acc:=[]) (.inl z')
   rw[a]at q;cases q
 hd:=I.ok.hd
 frames:=I.ok.frames
 stk:=.inl rfl
 exf:=fun b hb=>⟨fun e=>by
  obtain⟨o,q⟩:=ho b hb
  have e':b=C:=e
  rw[e']at q
  exact absurd (Gg q) (Nat.not_lt.mpr hC),fun x c e=>by
  rcases I.blkL hk e with⟨_,a,_⟩ | a
  ·obtain⟨o,q⟩:=ho b hb
   intro z
   rw[z]at a
   exact absurd (F9 (Gg q) hC) (Nat.not_lt.mpr (Nat.le_of_lt a))
  ·exact(hf b hb).2.2.2.2.1 x c a⟩
 bs:=I.bs
 bsz:=Gn I.ok.bsz I.sz
 noex:=fun b o e hb=>by
  rcases(hf b hb).2.2.2.1 with z | z
  ·exact I.ok.noex b o e z
  ·exact absurd (Gg (I.ok.bs b o e).1) (Nat.not_lt.mpr z)
 exfs:=fun b hb hs=>by
  rcases F6.mp (I.stkSub b hs) with z | z
  ·exact(hf b hb).2.1 z
  ·exact(hf b hb).2.2.1 z
 funs:=I.stack
 frf:=I.stkFree
theorem vz{pins:List (Addr×Obj)}{σ:St}{H:Hp}{s s1:Shared}{own:List Str}{js:List Nat}{scope:Scope}{fp:List Addr}{C:Addr}{m:Str->Option Value}(I:aH X pins σ H s)(hk:bz scope X.env.scope)(hC:s.heap.objs.size<=C)
  (hf:∀b∈fp,ma X pins H b) (ho:∀b∈fp,∃o,s.heap.get? b=some o) (hos:s1.os=s.os) (hg:s1.gens=s.gens) (hn:s1.heap.Ns C m) (keep:∀b o,s.heap.get? b=some o->s1.heap.get? b=some o)
  (hown:∀x c,(x,c)∈cellsFrom (C+1) scope.names []->s1.heap.IsCell c none) (hcap:(js.all fun j=>scope.names.contains (X.N.getD j Str.empty,NameKind.free))=true) :
  aH (X.blk (m6 own js X.N) s H scope fp C) [] (rm own.length js σ) H s1:=by
 have cl:=fun{x:Str} {c:Addr} (e:(d8 X.env scope.names []).lookup x=some c)=>gJ (I.capFree hk) (fun _ _ z=>by simp at z) e
 refine⟨A6 I hk hC hf ho,hos,hg▸I.bare,Un.kept keep,⟨m,hn,fun i x v e1 e2 e3=>?_⟩,fun x c e=>?_,I.hok.fresh hC,fun x c e=>(I.blkL hk e).elim (fun z=>I.hok.fresh (Gn hC (Nat.le_of_lt z.2.1))) fun z=>I.freeC x c z,fun p hp=>(nomatch hp),I.hok.kept keep,?_⟩
 ·have e1':(own++js.map fun j=>X.N.getD j Str.empty)[i]?=some x:=e1
  have e2':(List.replicate own.length none++js.map fun j=>(σ[j]?).join)[i]?=some (some v):=e2
  by_cases hi:i<own.length
  ·rw[Ga (by rw[List.length_replicate];exact hi),List.getElem?_replicate,if_pos hi]at e2'
   cases e2'
  ·have hi':own.length<=i:=Nat.le_of_not_lt hi
   rw[F' (by rw[List.length_replicate];exact hi'),List.length_replicate,FU]at e2'
   rw[F' hi',FU]at e1'
   cases ej:js[i-own.length]? with
   |none=>rw[ej]at e1';cases e1'
   |some j=>
    rw[ej]at e1' e2'
    have ex:X.N.getD j Str.empty=x:=Option.some.inj e1'
    have ev:(σ[j]?).join=some v:=Option.some.inj e2'
    have hj:σ[j]?=some (some v):=by
     cases q:σ[j]? with
     |none=>rw[q]at ev;cases ev
     |some z=>rw[q]at ev;simp at ev;rw[ev]
    have hjl:j<X.N.length:=by rw[<- I.len];exact(FQ.mp hj).1
    have hN:X.N[j]?=some x:=by rw[<- ex,List.getD_eq_getElem?_getD,FP hjl];rfl
    have hx:(x,NameKind.free)∈scope.names:=by
     have q:=GB.mp hcap j (FV ej)
     rw[ex]at q
     simpa using q
    have ko:=hk.free _ hx rfl
    obtain⟨mo,hno,hl⟩:=I.loc
    obtain⟨u,ru,lk⟩:=hl j x v hN hj (ko.elim (fun z=>.inr (.inl z)) fun z=>.inr (.inr z))
    refine⟨u,ru,?_⟩
    rcases lk with⟨kk,_⟩ | ⟨kk,c,ec,hc⟩
    ·rcases ko with z | z
     ·rw[show X.env.kindOf x=X.env.scope.names.lookup x from rfl,z]at kk;cases kk
     ·rw[show X.env.kindOf x=X.env.scope.names.lookup x from rfl,z]at kk;cases kk
    ·obtain⟨c',hc'⟩:=mi (env:=X.env) (ns:=scope.names) (acc:=[]) (x:=x) (.inr hx)
     have:=cl hc'
     rw[ec]at this
     cases this
     refine .inr ⟨?_,c,?_,hc.keeps keep⟩
     case refine_2=>
      show(dy X.env scope C).lookup x=some c
      unfold dy
      rw[iz,List.lookup_append,yI (hk.sep _ hx rfl)]
      exact hc'
     -- its kind within the block
     rcases e3 with z | z | z
     ·exact absurd z (hk.nl _ hx rfl)
     ·exact .inl z
     ·exact .inr z
 ·rcases I.blkL hk e with z | z
  ·exact⟨none,hown x c z.1⟩
  ·obtain⟨v,z⟩:=I.cell x c z
   exact⟨v,z.keeps keep⟩
 ·show(List.replicate own.length none++js.map fun j=>(σ[j]?).join).length=(own++js.map fun j=>X.N.getD j Str.empty).length
  simp
def Ak(env:Env)(ifs:List Expr):Sem Bool:=forIn ifs true fun c r=>if r=true then do let ok <- isTrue c env (eval c env);pure (ForInStep.yield ok) else pure (ForInStep.yield r)
theorem pH{prog:Program}{w:World}{A:Around}{R:Result->Shared->Prop}{s:Shared}{elt target iter:Expr}{ifs:List Expr}{scope:Scope}{pos:Pos}{it acc:Value}{env:Env}(I:Nat->Shared->Prop)
  (turn:∀n s,I n s->wpAny (model prog w) A (pyNext it) (fun r s₁=>match r with
   |none=>R (.ok .next) s₁
   |some v=>wpAny (model prog w) A (letOwnedTupleGo target it v) (fun _ s₁'=>wpAny (model prog w) A (assign target env v) (fun _ s₂=>
     wpAny (model prog w) A (Ak env ifs) (fun ok s₃=>
      if ok=true then wpAny (model prog w) A (eval elt env) (fun x s₄=>
       wpAny (model prog w) A (call (.builtin "list.append") [acc,x]) (fun _ s₅=>∃m,m<n/\I m s₅) (fun _ _=>False) s₄) (fun _ _=>False) s₃
      else ∃m,m<n/\I m s₃) (fun _ _=>False) s₂) (fun _ _=>False) s₁') (fun _ _=>False) s₁) (fun _ _=>False) s)
  (n:Nat) (h:I n s) :
  codeAny (model prog w) A (.compLoop (.ListComp elt [⟨target,iter,ifs,0⟩] scope pos) 0 it acc env) R s:=by
 refine codeAny_loop rfl I (fun n s hI=>?_) n h
 show wpAny _ A ((compTurn (.ListComp elt [⟨target,iter,ifs,0⟩] scope pos) 0 it acc env).onRaise (fun x=>do noteFrame x env;theTreesLotGoes x)) _ _ s
 refine wpAny_noted ?_
 rw[compTurn_list]
 have up:∀{α:Type} {t:Sem α} {Q Q':α->Shared->Prop} {E':Value->Shared->Prop} {s:Shared},wpAny (model prog w) A t Q (fun _ _=>False) s->(∀a s,Q a s->Q' a s)->wpAny (model prog w) A t Q' E' s:=
  fun h hQ=>wpAny_mono h hQ fun _ _ f=>f.elim
 refine wpAny_bind (wpAny_standAt (wpAny_bind (up (turn n s hI) fun r s₁ h₁=>?_)))
 cases r with
 |none=>exact wpAny_pure h₁
 |some v=>
  refine wpAny_bind (up h₁ fun _ s₁' h₁'=>wpAny_bind (up h₁' fun _ s₂ h₂=>wpAny_bind (up h₂ fun ok s₃ h₃=>?_)))
  cases ok with
  |false=>exact wpAny_pure ⟨rfl,h₃⟩
  |true=>
   exact wpAny_bind (wpAny_bind (up h₃ fun x s₄ h₄=>wpAny_bind (up h₄ fun _ s₅ h₅=>wpAny_pure (wpAny_pure ⟨rfl,h₅⟩))))
def Cf(X:Cx)(ifs:List Expr)(t:TT):Prop:=
 ∀(pins:List (Addr×Obj)) (s:Shared) (σ:St) (H:Hp) (Q:Bool->Hp->Prop),aH X pins σ H s->t σ H Q->wpAny (model X.prog X.w) X.A (Ak X.env ifs) (TP X pins σ Q) X.xe s
def uz:TT:=fun _ H Q=>Q true H
theorem bU{X:Cx}:Cf X [] uz:=fun pins s σ H Q I h=>wpAny_tests_nil ⟨H,I,h⟩
def jd(J:It)(g:TG)(ti:TT)(te:TE)(σ:St)(H:Hp)(Q:List V->Hp->Prop):Prop:=
 ∃W:Nat->Nat->List V->St->Hp->Prop,(∃m,W 0 m [] σ H)/\∀i m acc σ' H',W i m acc σ' H' ->
  acc.length<sizeLine/\((J.stop i H'/\Q acc H') \/
   (J.go i H'/\∃N:List V->St->Hp->Prop,(∀acc' σ2 H2,N acc' σ2 H2->∃m',m'<m/\W (i+1) m' acc' σ2 H2) /\
    ∀x H2,J.yld i H' x H2->g x σ' H2 fun σ2 H3=>ti σ2 H3 fun b H4=>if b=true then te σ2 H4 fun v H5=>N (acc++[v]) σ2 H5 else N acc σ2 H4))
def xA(k:Nat)(js:List Nat)(wi:TI)(g:TG)(ti:TT)(te:TE):TE:=fun σ H Q=>wi σ H fun J H1=>jd J g ti te (rm k js σ) H1 fun acc H'=>∀l,H' l=none->Q (.ref l) (ap H' l (.lst acc))
abbrev fK(its:List Value)(n:Nat):Obj:={cls:=.type "list",data:=.seq its.toArray n}
theorem oU{pins:List (Addr×Obj)}{σ:St}{H:Hp}{s:Shared}{elt tg iter:Expr}{ifs:List Expr}{scope:Scope}{pos:Pos}{own:List Str}{js:List Nat}{g:TG}{ti:TT}{te:TE}{J:It}{fp:List Addr}{it:Addr}{tn:Nat->Heap->Prop}{Q:List V->Hp->Prop}{E:Value->Shared->Prop}
  {RR:Value->Addr->Result->Shared->Prop} (hc:X.calm=true) (hk:bz scope X.env.scope) (hcap:(js.all fun j=>scope.names.contains (X.N.getD j Str.empty,NameKind.free))=true)
  (hg:∀s H fp C,PG (X.blk (m6 own js X.N) s H scope fp C) tg g) (hi:∀s H fp C,Cf (X.blk (m6 own js X.N) s H scope fp C) ifs ti) (he:∀s H fp C,PE (X.blk (m6 own js X.N) s H scope fp C) elt te)
  (I:aH X pins σ H s) (T:pP X.prog X.w X.K tg J fp it tn) (st:tn 0 s.heap) (hf:∀b∈fp,ma X pins H b)
  (hW:jd J g ti te (rm own.length js σ) H Q)
  (hRR:∀(D C:Addr) (s':Shared) (H':Hp) (acc:List V) (m:Str->Option Value),Q acc H'->H' D=none->aH X pins σ (ap H' D (.lst acc)) s'->s'.heap.Ns C m->ap H' D (.lst acc) C=none->C≠X.env.locals->X.s₀.heap.objs.size<=C ->
   (∀x c,X.env.cells.lookup x=some c->c≠C)->(∀p∈X.pn++pins,p.1≠C)->RR (.ref D) C (.ok .next) s') :
  wpAny (model X.prog X.w) X.A (newList []) (fun acc s₃=>wpAny (model X.prog X.w) X.A (newFunctionEnv scope X.env.globals (d8 X.env scope.names []) [] X.env.qual none .none (some X.env)) (fun cenv s₄=>
   codeAny (model X.prog X.w) X.A (.compStart (.ListComp elt [⟨tg,iter,ifs,0⟩] scope pos) 0 (.ref it) acc {cenv with scope:=relabel scope X.env}) (RR acc cenv.locals) s₄) E s₃) E s:=by
 obtain⟨W,⟨m0,w0⟩,turn⟩:=hW
 refine wpAny_newObj_type (eO ?_)
 dsimp only
 generalize hH2:s.heap.push {cls:=.type "list",dict:=none,data:=.seq ([]:List Value).toArray}=H2
 generalize hh1:pushCells (H2.push {cls:=.type "dict",data:=.dict #[]}) scope.names=h₁
 have hpk:∀b o,(H2.push {cls:=.type "dict",data:=.dict #[]}).get? b=some o->h₁.get? b=some o:=fun b o e=>hh1▸pushCells_keeps _ _ b o e
 have hns₁:h₁.Ns H2.objs.size fun _=>none:=by
  have q:(H2.push {cls:=.type "dict",data:=.dict #[]}).Ns H2.objs.size fun _=>none:=Heap.Ns.new ..
  exact q.at' fun o e=>hpk _ o e
 have hown₁:∀x c,(x,c)∈cellsFrom (H2.objs.size+1) scope.names []->h₁.IsCell c none:=fun x c e=>by
  have ok:=cellsFrom_ok scope.names (H2.push {cls:=.type "dict",data:=.dict #[]}) (H2.objs.size+1) [] ⟨fun _ _ hm=>(nomatch hm),List.Pairwise.nil⟩ (by rw[Heap.size_push];exact Gc _)
  rw[Heap.size_push,hh1]at ok
  exact(ok.empty x c e).1
 have hC:H2.objs.size=s.heap.objs.size+1:=by rw[<- hH2,Heap.size_push]
 have hDC:s.heap.objs.size≠H2.objs.size:=by rw[hC];exact F_ (Gp _)
 have hCle:s.heap.objs.size<=H2.objs.size:=by rw[hC];exact Nat.le_succ _
 have below:∀b,b<s.heap.objs.size->b≠H2.objs.size/\b≠s.heap.objs.size:=fun b hb=>⟨by rw[hC];exact F_ (Nat.lt_succ_of_lt hb),F_ hb⟩
 have old:∀b o,s.heap.get? b=some o->h₁.get? b=some o:=fun b o e=>hpk b o (FR _ (hH2▸FR _ e))
 have hacc:h₁.get? s.heap.objs.size=some (fK [] 0):=hpk _ _ (FR _ (hH2▸FX _ rfl))
 have hob:∀b∈fp,∃o,s.heap.get? b=some o:=fun b hb=>let ⟨o,e,_⟩:=T.obj 0 _ st b hb;⟨o,e⟩
 have st₁:tn 0 h₁:=T.keep 0 _ _ st fun b _ o e=>old b o e
 generalize hXb:X.blk (m6 own js X.N) s H scope fp H2.objs.size=Xb
 have I₁:aH Xb [] (rm own.length js σ) H {s with heap:=h₁}:=hXb▸vz I hk hCle hf hob rfl rfl hns₁ old hown₁ hcap
 have eP:Xb.prog=X.prog:=by rw[<- hXb];rfl
 have ew:Xb.w=X.w:=by rw[<- hXb];rfl
 have eK:Xb.K=X.K:=by rw[<- hXb];rfl
 have eA:Xb.A=X.A:=by rw[<- hXb];rfl
 have ec:Xb.calm=true:=by rw[<- hXb];exact hc
 have eE:Xb.env=compEnvC scope (dy X.env scope H2.objs.size) H2.objs.size X.env:=by rw[<- hXb];rfl
 have ex:Xb.xe=fun _ _=>False:=by rw[<- hXb];rfl
 have es:Xb.s₀=s:=by rw[<- hXb];rfl
 have eh:Xb.H₀=H:=by rw[<- hXb];rfl
 have ef:Xb.fs=lg X.stack:=by rw[<- hXb];rfl
 have exx:Xb.ex=fp:=by rw[<- hXb];rfl
 have ep:Xb.pn=[]:=by rw[<- hXb];rfl
 have eL:Xb.env.locals=H2.objs.size:=by rw[eE];rfl
 have hD0:H s.heap.objs.size=none:=I.hok.fresh (Gc _)
 -- D is no iterator's,no frame's
 have hDf:∀b∈fp,b≠s.heap.objs.size:=fun b hb e=>by
  obtain⟨o,q⟩:=hob b hb
  rw[e]at q
  exact absurd (Gg q) (Go _)
 have hDs:s.heap.objs.size∉Xb.fs:=fun z=>by
  rw[ef]at z
  rcases F6.mp (I.stkSub _ z) with q | q
  ·exact absurd I.lt (by rw[<- q];exact Go _)
  ·exact I.nofs (Gc _) q
 have hDcell:∀x c,Xb.env.cells.lookup x=some c->c≠s.heap.objs.size:=fun x c e q=>by
  rcases I.blkL hk (C:=H2.objs.size) (x:=x) (c:=c) (by rw[eE]at e;exact e) with⟨_,z,_⟩ | z
  ·rw[q]at z
   exact absurd hCle (Nat.not_le.mpr z)
  ·obtain⟨v,o,ho,_⟩:=I.cell x c z
   rw[q]at ho
   exact absurd (Gg ho) (Go _)
 have stat:∀{pl:List (Addr×Obj)} {H':Hp},(∀b∈fp,H' b=none)->(∀p∈pl,p.1=s.heap.objs.size)->∀b∈fp,ma Xb pl H' b:=fun hn hp b hb=>by
  refine⟨hn b hb,?_,?_,.inl (by rw[exx];exact hb),fun x c e=>?_,fun p hpp=>?_⟩
  ·rw[eL];exact(below b (let ⟨o,q⟩:=hob b hb;Gg q)).1
  ·rw[ef];intro z
   rcases F6.mp (I.stkSub b z) with q | q
   ·exact(hf b hb).2.1 q
   ·exact(hf b hb).2.2.1 q
  ·rcases I.blkL hk (C:=H2.objs.size) (x:=x) (c:=c) (by rw[eE]at e;exact e) with⟨_,z,_⟩ | z
   ·intro q
    rw[q]at z
    obtain⟨o,q2⟩:=hob b hb
    exact absurd (F9 (Gg q2) hCle) (Nat.not_lt.mpr (Nat.le_of_lt z))
   ·exact(hf b hb).2.2.2.2.1 x c z
  ·rw[ep,GE]at hpp
   rw[hp p hpp]
   exact(hDf b hb).symm
 have loop:∀s₃:Shared,s₃={s with heap:=h₁} ->
   codeAny (model X.prog X.w) X.A (.compLoop (.ListComp elt [⟨tg,iter,ifs,0⟩] scope pos) 0 (.ref it) (.ref s.heap.objs.size) (compEnvC scope (dy X.env scope H2.objs.size) H2.objs.size X.env))
    (RR (.ref s.heap.objs.size) H2.objs.size) s₃:=by
  rintro s₃ rfl
  refine pH (fun n s'=>∃(i:Nat) (acc:List V) (its:List Value) (k:Nat) (σ':St) (H':Hp),aH Xb [] σ' H' s'/\tn i s'.heap/\(∀b∈fp,H' b=none)/\H' s.heap.objs.size=none/\s'.heap.get? s.heap.objs.size=some (fK its k)/\aS acc its/\W i n acc σ' H')
   ?_ m0 ⟨0,[],[],0,_,H,I₁,st₁,fun b hb=>(hf b hb).1,hD0,hacc,.nil,w0⟩
  rintro n s' ⟨i,acc,its,k,σ',H',I',st',fr',hD',oD',rv',w'⟩
  obtain⟨hlen,tt⟩:=turn i n acc σ' H' w'
  -- the gathered list,pinned
  have Ip:aH Xb [(s.heap.objs.size,fK its k)] σ' H' s':=I'.pins_of fun p hp=>by
   have e:p=(s.heap.objs.size,fK its k):=by simpa using hp
   subst e
   exact⟨oD',hD',by rw[eL];exact hDC,hDs,fun v z=>by cases z⟩
  have hpl:∀p∈[(s.heap.objs.size,fK its k)],p.1=s.heap.objs.size:=fun p hp=>by
   have e:p=(s.heap.objs.size,fK its k):=by simpa using hp
   rw[e]
  rcases tt with⟨stop,q⟩ | ⟨go,N,hN,step⟩
  ·have d:=T.done Xb eP ew eK ec i _ s' σ' H' (fun _ _=>False) Ip (stat fr' hpl) st' stop
   rw[eA]at d
   refine wpAny_mono d (fun r s1 hr=>?_) fun _ _ z=>z
   obtain⟨rfl,I1⟩:=hr
   have oD1:s1.heap.get? s.heap.objs.size=some (fK its k):=(I1.pin _ (List.mem_append_right _ (FT.mpr rfl))).1
   obtain⟨mC,hnC,_⟩:=I1.loc
   rw[eL]at hnC
   obtain⟨oC,_,_,hoC,_⟩:=id hnC
   have hCH:H' H2.objs.size=none:=by have:=I1.free;rwa [eL]at this
   have ub:Un (lg X.stack) fp H H' s.heap s1.heap:=by have:=I1.base;rwa [ef,exx,eh,es]at this
   refine hRR _ _ s1 H' acc mC q hD' ?_ hnC ?_ ?_ ?_ ?_ ?_
   ·-- CY outside
    refine I.call' (ch:=fp) (by have:=I1.os;rwa [es]at this) ⟨fun b o e n1 h1 h2=>ub.keep b o e n1 h1 h2,fun b o e n1 h1 h2=>ub.slot b o e n1 h1 h2,fun b o e n1 h1=>?_,ub.there,fun b xs e=>?_,fun b o u e=>?_,fun b ps e=>?_⟩ ?_ (by have:=I1.bare;exact this) fun b hb=>?_
    ·rw[aj (fun z=>by rw[z]at e;exact absurd (Gg e) (Go _))]
     exact ub.free b o e n1 h1
    ·rw[aj (aG (ub.tups b xs e) hD')]
     exact ub.tups b xs e
    ·rw[aj (aG (ub.frzs b o u e) hD')]
     exact ub.frzs b o u e
    ·obtain⟨more,z⟩:=ub.tbls b ps e
     exact⟨more,by rw[aj (aG z hD')];exact z⟩
    ·intro b u e
     have hokb:=I1.hok
     rw[eP,ew]at hokb
     by_cases hb:b=s.heap.objs.size
     ·subst hb
      rw[ac]at e
      cases e
      exact⟨Nat.le_of_lt hlen,its,k,rv',oD1⟩
     ·rw[aj hb]at e
      refine(hokb b u e).stay (fun c v _ z=>z) (fun c z=>?_) fun c xs z=>?_
      ·rw[aj (aG z hD')];exact z
      ·rw[aj (aG z hD')];exact z
    ·exact⟨(hf b hb).2.2.2.1,(hf b hb).2.1,(hf b hb).2.2.2.2.1,(hf b hb).2.2.2.2.2⟩
   ·rw[aj hDC.symm];exact hCH
   ·intro z;have:=I.lt;rw[<- z]at this;exact absurd this (Nat.not_lt.mpr hCle)
   ·exact Gn I.sz hCle
   ·intro x c e z
    obtain⟨v,o,ho,_⟩:=I.cell x c e
    rw[z]at ho
    exact absurd (Gg ho) (Nat.not_lt.mpr hCle)
   ·intro p hp z
    have:=(I.pin p hp).1
    rw[z]at this
    exact absurd (Gg this) (Nat.not_lt.mpr hCle)
  ·have d:=T.item Xb eP ew eK ec i _ s' σ' H' (fun _ _=>False) Ip (stat fr' hpl) st' go
   rw[eA]at d
   refine wpAny_mono d (fun r s1 hr=>?_) fun _ _ z=>z
   obtain⟨u,rfl,d2⟩:=hr
   refine wpAny_mono d2 (fun _ s2 hr2=>?_) fun _ _ z=>z
   obtain⟨x,H2',I2,r2,y2,st2,fr2⟩:=hr2
   have I2':=I2.pinned (stat fr2 hpl) (T.obj _ _ st2)
   have G:=hXb▸hg s H fp H2.objs.size
   have d3:=G _ s2 σ' H2' x u _ I2' r2 (step x H2' y2)
   rw[eP,ew,eA,ex,eE]at d3
   refine wpAny_mono d3 (fun _ s3 hr3=>?_) fun _ _ z=>z
   obtain⟨σ3,H3,I3,q3⟩:=hr3
   have Gi:=hXb▸hi s H fp H2.objs.size
   have d4:=Gi _ s3 σ3 H3 _ I3 q3
   rw[eP,ew,eA,ex,eE]at d4
   refine wpAny_mono d4 (fun b s4 hr4=>?_) fun _ _ z=>z
   obtain⟨H4,I4,q4⟩:=hr4
   have again:∀{s5:Shared} {H5:Hp} {σ5:St},aH Xb ([(s.heap.objs.size,fK its k)]++mT fp s2.heap) σ5 H5 s5->s5.heap.get? s.heap.objs.size=some (fK its k)/\H5 s.heap.objs.size=none/\tn (i+1) s5.heap/\∀b∈fp,H5 b=none:=fun{s5 H5 σ5} I5=>by
    have pD:=I5.pin (s.heap.objs.size,fK its k) (List.mem_append_right _ (List.mem_append_left _ (FT.mpr rfl)))
    refine⟨pD.1,pD.2.1,T.keep _ _ _ st2 fun b hb o e=>(I5.pin (b,o) (List.mem_append_right _ (List.mem_append_right _ (gi hb e)))).1,fun b hb=>?_⟩
    obtain⟨o,e,_⟩:=T.obj _ _ st2 b hb
    exact(I5.pin (b,o) (List.mem_append_right _ (List.mem_append_right _ (gi hb e)))).2.1
   have bare:∀{s5:Shared} {H5:Hp} {σ5:St} {pl:List (Addr×Obj)},aH Xb pl σ5 H5 s5->aH Xb [] σ5 H5 s5:=fun I5=>I5.pins_of fun p hp=>nomatch hp
   cases b with
   |false=>
    obtain⟨m',hm,w5⟩:=hN _ _ _ q4
    obtain⟨a1,a2,a3,a4⟩:=again I4
    exact⟨m',hm,i+1,acc,its,k,σ3,H4,bare I4,a3,a4,a2,a1,rv',w5⟩
   |true=>
    have Ge:=hXb▸he s H fp H2.objs.size
    have d5:=Ge _ s4 σ3 H4 _ I4 q4
    rw[eP,ew,eA,ex,eE]at d5
    refine wpAny_mono d5 (fun y s5 hr5=>?_) fun _ _ z=>z
    obtain⟨v,H5,I5,r5,q5⟩:=hr5
    obtain⟨m',hm,w5⟩:=hN _ _ _ q5
    obtain⟨a1,a2,a3,a4⟩:=again I5
    have hl:=rv'.length
    refine call_meets F.slot_list_append ⟨_,a1,rfl⟩ F.entry_list_append (F.args_list_append_2 _ _) (PySem.list_append s.heap.objs.size its.toArray k y (by rw[FY];omega)) ⟨a1,?_⟩
    have qu:=PySem.IsL.update a1 (fun x_1=>x_1.push y)
    have qe:(its.toArray.push y)=(its++[y]).toArray:=by simp
    rw[qe]at qu
    have I6:aH Xb [] σ3 H5 {s5 with heap:=s5.heap.update s.heap.objs.size (Obj.mapSeq fun x_1=>x_1.push y),toks:=s5.toks}:=
     (bare I5).turned (fun b o hb e=>(FW s5.heap _ (Ne.symm hb)).trans e) a2 (by rw[eL];exact hDC) (.inr (by rw[es];exact Gc _)) hDcell (by rw[ep];intro p hp;exact nomatch hp)
    refine⟨m',hm,i+1,acc++[v],its++[y],_,σ3,H5,I6,T.keep _ _ _ a3 (fun b hb o e=>(FW s5.heap _ (hDf b hb).symm).trans e),a4,a2,qu,rv'.append (.cons r5 .nil),w5⟩
 refine codeAny_compStart_list (loop _ rfl) ?_
 exact T.self _ 0 _ _ _ st₁ (loop _ rfl)
theorem cF{elt tg iter:Expr}{ifs:List Expr}{scope:Scope}{pos:Pos}(own:List Str)(js:List Nat){wi:TI}{g:TG}{ti:TT}{te:TE}(hc:X.calm=true)(hk:bz scope X.env.scope)
  (hcap:(js.all fun j=>scope.names.contains (X.N.getD j Str.empty,NameKind.free))=true) (hw:PI X tg iter wi)
  (hg:∀s H fp C,PG (X.blk (m6 own js X.N) s H scope fp C) tg g) (hi:∀s H fp C,Cf (X.blk (m6 own js X.N) s H scope fp C) ifs ti) (he:∀s H fp C,PE (X.blk (m6 own js X.N) s H scope fp C) elt te)
  (hs:∀x,foldedSetIterable iter X.env x=pure x:=by intro _;rfl):PE X (.ListComp elt [⟨tg,iter,ifs,0⟩] scope pos) (xA own.length js wi g ti te):=by
 intro pins s σ H Q I h
 rw[eval_ListComp]
 refine wpAny_comprehension_free (use:=none) rfl hs (iA (I.capFree hk)) hk.kind hk.loc (bx (hw pins s σ H _ I h) fun v s1 h1=>bx h1 fun itv s2 h2=>?_)
 obtain⟨it,fp,tn,J,H2,rfl,I2,T,st2,f2,hW⟩:=h2
 refine oU (RR:=fun acc C=>compPost (model X.prog X.w) X.A X.xe none (EP X pins σ Q) acc C) (Q:=fun acc H'=>∀l,H' l=none->Q (.ref l) (ap H' l (.lst acc))) hc hk hcap hg hi he I2 T st2 f2 hW ?_
 intro D C s' H' acc m q hD I' hn hC0 hCL hCs hCc hCp
 refine⟨m,hn,fun h' sb=>?_⟩
 exact⟨.ref D,_,I'.turned (t':=s'.toks) (fun b o hb e=>(sb.2 b hb).trans e) hC0 hCL (.inr hCs) hCc hCp,rfl,q D hD⟩
theorem nG{i:Nat}{x:Str}{elt tg iter:Expr}{ifs:List Expr}{scope:Scope}{pos spos:Pos}{px:Pos}(own:List Str)(js:List Nat){wi:TI}{g:TG}{ti:TT}{te:TE}(hN:X.N.Nodup)(hxi:X.N[i]?=some x)(hx:Bl X.env.scope x)
  (hsw:swapsWith (.ListComp elt [⟨tg,iter,ifs,0⟩] scope pos) (some (.Name x px)) spos.line X.env=pure true)
  (hc:X.calm=true) (hk:bz scope X.env.scope)
  (hcap:(js.all fun j=>scope.names.contains (X.N.getD j Str.empty,NameKind.free))=true) (hw:PI X tg iter wi)
  (hg:∀s H fp C,PG (X.blk (m6 own js X.N) s H scope fp C) tg g) (hi:∀s H fp C,Cf (X.blk (m6 own js X.N) s H scope fp C) ifs ti) (he:∀s H fp C,PE (X.blk (m6 own js X.N) s H scope fp C) elt te)
  (hs:∀x,foldedSetIterable iter X.env x=pure x:=by intro _;rfl) (hf:X.fn x=true\/X.env.scope.names.lookup x=some .local:=by first | exact .inl rfl | exact .inr rfl | assumption) :
  PS X (.Assign [.Name x px] (.ListComp elt [⟨tg,iter,ifs,0⟩] scope pos) spos) (xO (xA own.length js wi g ti te) (bZ i)):=by
 intro pins s σ H Dn I h
 rw[exec_Assign_Name_used _ _ _ _ hsw]
 refine wpAny_bind (wpAny_standAt (wpAny_bind ?_))
 show wpAny _ _ (do let _ <- comprehension (.ListComp elt [⟨tg,iter,ifs,0⟩] scope pos) scope X.env _ (newList []) false (eval iter X.env) (some (assign (.Name x px) X.env))) _ _ s
 refine wpAny_bind (wpAny_mono (wpAny_comprehension_free (use:=some (assign (.Name x px) X.env)) (Q:=fun _ s'=>SP X pins Dn .next s') (E:=X.xe) rfl hs (iA (I.capFree hk)) hk.kind hk.loc ?_) (fun _ s' q=>wpAny_pure (wpAny_pure q)) fun _ _ z=>z)
 refine(bx (hw pins s σ H _ I h) fun v s1 h1=>bx h1 fun itv s2 h2=>?_)
 obtain⟨it,fp,tn,J,H2,rfl,I2,T,st2,f2,hW⟩:=h2
 refine oU (RR:=fun acc C=>compPost (model X.prog X.w) X.A X.xe (some (assign (.Name x px) X.env)) (fun _ s'=>SP X pins Dn .next s') acc C) (Q:=fun acc H'=>∀l,H' l=none->bZ i (.ref l) σ (ap H' l (.lst acc)) Dn.nx) hc hk hcap hg hi he I2 T st2 f2 hW ?_
 intro D C s' H' acc m q hD I' hn hC0 hCL hCs hCc hCp
 show wpAny _ _ (assign (.Name x px) X.env (.ref D)) _ _ s'
 refine wpAny_assign_Name (pC I' hN hxi hx (v:=.ref D) rfl (fun s'' I'' sb=>?_) hf)
 obtain⟨a,sb,ha⟩:=sb
 have hCa:C≠a:=by
  rcases ha with z | z
  ·rw[z];exact hCL
  ·exact(hCc x a z).symm
 refine⟨m,hn.sameBut sb hCa,fun h' sb'=>?_⟩
 exact⟨_,_,I''.turned (t':=s''.toks) (fun b o hb e=>(sb'.2 b hb).trans e) hC0 hCL (.inr hCs) hCc hCp,q D hD⟩
end
section
variable {K:PySem.W.Frag}{g:TG}{ti:TT}{te:TE}{σ:St}{H:Hp}{Q:List V->Hp->Prop}
theorem qh{J:It}{n:Nat}(Pv:Nat->List V->St->Hp->Prop)(h0:Pv 0 [] σ H)(hz:∀i acc σ H,Pv i acc σ H->acc.length<sizeLine)(hi:∀i acc σ H,Pv i acc σ H->i<=n)
  (stop:∀acc σ H,Pv n acc σ H->J.stop n H) (go:∀i acc σ H,i<n->Pv i acc σ H->J.go i H)
  (hs:∀i x acc σ H H2,i<n->Pv i acc σ H->J.yld i H x H2->g x σ H2 fun σ2 H3=>ti σ2 H3 fun b H4=>if b=true then te σ2 H4 fun v H5=>Pv (i+1) (acc++[v]) σ2 H5 else Pv (i+1) acc σ2 H4)
  (he:∀acc σ H,Pv n acc σ H->Q acc H) :
  jd J g ti te σ H Q:=by
 refine⟨fun i m acc σ H=>Pv i acc σ H/\m=n+1-i,⟨n+1,h0,rfl⟩,?_⟩
 rintro i m acc σ' H' ⟨w,rfl⟩
 refine⟨hz i acc σ' H' w,?_⟩
 have hle:=hi i acc σ' H' w
 rcases Nat.lt_or_ge i n with hlt | hge
 ·refine .inr ⟨go i acc σ' H' hlt w,fun acc' σ2 H2=>Pv (i+1) acc' σ2 H2,fun acc' σ2 H2 w2=>⟨n+1-(i+1),?_,w2,rfl⟩,fun x H2 y=>hs i x acc σ' H' H2 hlt w y⟩
  have:=hi (i+1) acc' σ2 H2 w2
  omega
 ·have e:i=n:=by omega
  subst e
  exact .inl ⟨stop acc σ' H' w,he acc σ' H' w⟩
theorem oB{a:Addr}{xs:List V}(Pv:Nat->List V->St->Hp->Prop)(h0:Pv 0 [] σ H)(hz:∀i acc σ H,Pv i acc σ H->acc.length<sizeLine)(hi:∀i acc σ H,Pv i acc σ H->i<=xs.length)
  (hl:∀i acc σ H,Pv i acc σ H->aT K H a xs)
  (hs:∀i x acc σ H,xs[i]?=some x->Pv i acc σ H->g x σ H fun σ2 H3=>ti σ2 H3 fun b H4=>if b=true then te σ2 H4 fun v H5=>Pv (i+1) (acc++[v]) σ2 H5 else Pv (i+1) acc σ2 H4)
  (he:∀acc σ H,Pv xs.length acc σ H->Q acc H):jd (yG K a) g ti te σ H Q:=by
 exact qh (J:=yG K a) (g:=g) (ti:=ti) (te:=te) (Q:=Q) (n:=xs.length) Pv h0 hz hi (fun acc σ H w=>⟨xs,hl _ _ _ _ w,Gc _⟩)
  (fun i acc σ H hlt w=>⟨xs,xs[i],hl _ _ _ _ w,FP hlt⟩) (fun i x acc σ H H2 hlt w y=>by obtain⟨rfl,hx⟩:=y;exact hs i x acc σ H2 (hx xs (hl _ _ _ _ w)) w) he
theorem jD{lo:Int}{n:Nat}(Pv:Nat->List V->St->Hp->Prop)(h0:Pv 0 [] σ H)(hz:∀i acc σ H,Pv i acc σ H->acc.length<sizeLine)(hi:∀i acc σ H,Pv i acc σ H->i<=n)
  (hs:∀i acc σ H,i<n->Pv i acc σ H->g (.int (lo+i)) σ H fun σ2 H3=>ti σ2 H3 fun b H4=>if b=true then te σ2 H4 fun v H5=>Pv (i+1) (acc++[v]) σ2 H5 else Pv (i+1) acc σ2 H4)
  (he:∀acc σ H,Pv n acc σ H->Q acc H):jd (yL lo n) g ti te σ H Q:=by
 exact qh (J:=yL lo n) (g:=g) (ti:=ti) (te:=te) (Q:=Q) (n:=n) Pv h0 hz hi (fun acc σ H w=>Gc _) (fun i acc σ H hlt w=>hlt) (fun i x acc σ H H2 hlt w y=>by obtain⟨rfl,rfl⟩:=y;exact hs i acc σ H2 hlt w) he
end
structure fP(P:Program)(w:World)(K:PySem.W.Frag)(mg:Str->Option Value)(base:Heap)(CX:jH)(k:Nat)(x:Str)(ps:List Str)(sp:Sp):Prop where
 ex:∃(f:Addr) (fd:FuncData),bb P w K mg base CX k f fd ps sp/\mg x=some (.ref f)/\PySem.W.keepIn K (.ref f)=true/\dq K fd ps []
structure NB(mg:Str->Option Value):Prop where
 len:mg "len"=none
 range:mg "range"=none
 list:mg "list"=none
 tuple:mg "tuple"=none
 isinstance:mg "isinstance"=none
 int:mg "int"=none
 bool:mg "bool"=none
 str:mg "str"=none
 reversed:mg "reversed"=none
 all:mg "all"=none
 enumerate:mg "enumerate"=none
 zip:mg "zip"=none
 sorted:mg "sorted"=none
 set:mg "set"=none
 dict:mg "dict"=none
 min:mg "min"=none
 max:mg "max"=none
 sum:mg "sum"=none
 ValueError:mg "ValueError"=none
section
variable {X:Cx}{CX:jH}{k:Nat}{x:Str}{ps:List Str}{sp:Sp}{E:XK}{p pos:Pos}{e:Expr}{es:List Expr}{t:TA}
theorem aP(C:fP X.prog X.w X.K X.mg X.base CX k x ps sp)(hr:cI k X.A)(hg:Gl X x)(hx:cn CX X E)(ha:PA X (e::es) t)(hdb:(x==("__debug__":Str))=false:=by decide +kernel)
  (hst:starEach (e::es) X.env=(false,eval e X.env)::starEach es X.env:=by rfl) (hpl:(backTo pos (starEach es X.env)).any (·.1)=false:=by rfl):PE X (.Call (.Name x p) (e::es) [] pos) (pj sp [] E t):=by
 obtain⟨f,fd,F,hm,hk,hb⟩:=C.ex
 exact zh F hr hg hm hk hb .nil hx ha hdb hst hpl
end
section
variable {X:Cx}{tg:Expr}
def xK(_ j:Int):Prop:=0<j/\j<18446744073709551616
theorem aU:jN X (binaryOp .FloorDiv) (rI xK fun i j=>.int (i/j)):=Ck fun i j _ _ _ _ _ hc q=>by
 have h1:(0:Int)<j:=hc.1
 have h2:j<18446744073709551616:=hc.2
 refine floordiv_int (by omega) (by rw[Int.fdiv_eq_ediv_of_nonneg i (by omega)];exact q) (.inl (PyProof.noPylong_of_log2 ?_))
 have h64:j.natAbs.log2<64:=(Nat.log2_lt (by omega)).mpr (by omega)
 omega
theorem jz:∀{ys:List Str} {us:List Value},aS (ys.map V.str) us->StrsAre us ys
 | [],_,.nil=>.nil
 |y::ys,_,.cons r t=>by
  obtain⟨tk,rfl⟩:=r
  exact .cons y tk (jz t)
def wW(K:PySem.W.Frag):V->List V->Hp->VK->Prop:=fun x xs H Q=>∃z p ys,x=.str z/\xs=[.ref p]/\(aT K H p (ys.map V.str)\/bq K H p (ys.map V.str))/\(ys.map (·.length)).sum+ys.length*z.length<=16777216/\Q (.str (Txt.join z ys)) H
theorem mr:AF X "str.join" (wW X.K):=by
 intro pins s σ H x xs v us Q I rx rv h
 obtain⟨z,p,ys,rfl,rfl,hs,hz,q⟩:=h
 obtain⟨t,rfl⟩:=rx
 obtain⟨u,rfl,ru⟩:=rv.one
 cases ru
 rcases hs with hs | hs
 ·obtain⟨its,r,pl,_⟩:=I.list hs
  exact join_list pl.isList (by simpa using jz r) hz fun t' k=>⟨.str _,H,I.tok k,⟨t',rfl⟩,q⟩
 ·obtain⟨its,r,pl,_⟩:=I.tuple hs
  exact join_tuple pl (by simpa using jz r) hz fun t' k=>⟨.str _,H,I.tok k,⟨t',rfl⟩,q⟩
def B3(x:Str):It:=⟨fun i _=>i<x.cps.size,fun i H v H'=>H'=H/\∃c,x.cps[i]?=some c/\v=.str ⟨#[c]⟩,fun i _=>x.cps.size<=i⟩
theorem xa{P:Program}{w:World}{K:PySem.W.Frag}{tg:Expr}(x:Str)(t:Tok)(it:Addr):pP P w K tg (B3 x) [it] it (fun i h=>h.IsStrIter it (strIterType x) x t i) where
 mem:=by simp
 obj:=fun i h st b hb=>by
  have e:b=it:=by simpa using hb
  subst e
  obtain⟨o,e,c,d⟩:=st
  exact⟨o,e,fun v z=>by rw[d]at z;cases z⟩
 keep:=fun i h h' st k=>by
  obtain⟨o,e,c,d⟩:=st
  exact⟨o,k it (by simp) o e,c,d⟩
 item:=by
  intro X hP hw hK hc i pins s σ H E I hf st hg
  subst hP hw hK
  obtain⟨f0,f1,f2,f3,f4,f5⟩:=hf it (by simp)
  have hi:i<x.cps.size:=hg
  have hx:x.cps[i]?=some x.cps[i]:=Array.getElem?_eq_getElem hi
  have fin:∀h',h'.IsStrIter it (strIterType x) x t (i+1)->Heap.SameBut it s.heap h'->∃u,(some (Value.str ⟨#[x.cps[i]]⟩ s.toks))=some u /\
    wpAny (model X.prog X.w) X.A (letOwnedTupleGo tg (.ref it) u) (fun _ s2=>∃v H',aH X pins σ H' s2/\aY v u/\(B3 x).yld i H v H'/\s2.heap.IsStrIter it (strIterType x) x t (i+1)/\∀b∈[it],H' b=none) E {s with heap:=h',toks:=s.toks+1}:=fun h' st' sb=>by
   have I1:aH X pins σ H {s with heap:=h',toks:=s.toks+1}:=I.turned (fun b o hb e=>(sb.2 b hb).trans e) f0 f1 f3 f4 f5
   obtain⟨o,e,c,d⟩:=id st'
   refine⟨_,rfl,or (s:={s with heap:=h',toks:=s.toks+1}) e c d ?_ ⟨.str ⟨#[x.cps[i]]⟩,H,I1,⟨_,rfl⟩,⟨rfl,_,hx,rfl⟩,st',fun b hb=>(hf b hb).1⟩⟩
   unfold strIterType
   split<;>decide
  cases ha:x.cps.all (· < 128) with
  |true=>
   have ety:strIterType x="str_ascii_iterator":=by unfold strIterType;rw[ha];rfl
   rw[ety]at st fin ⊢
   exact wpAny_pyNext_ascii_item st hx fin
  |false=>
   have ety:strIterType x="str_iterator":=by unfold strIterType;rw[ha];rfl
   rw[ety]at st fin ⊢
   exact wpAny_pyNext_wide_item st hx fin
 done:=by
  intro X hP hw hK hc i pins s σ H E I hf st hg
  subst hP hw hK
  obtain⟨f0,f1,f2,f3,f4,f5⟩:=hf it (by simp)
  have hi:x.cps.size<=i:=hg
  have hx:x.cps[i]?=none:=Array.getElem?_eq_none hi
  cases ha:x.cps.all (· < 128) with
  |true=>
   have ety:strIterType x="str_ascii_iterator":=by unfold strIterType;rw[ha];rfl
   rw[ety]at st
   exact wpAny_pyNext_ascii_end (I.ok.hd hc) st hx fun h' eb=>⟨rfl,I.turned (t':=s.toks) (fun b o hb e=>eb b o hb e) f0 f1 f3 f4 f5⟩
  |false=>
   have ety:strIterType x="str_iterator":=by unfold strIterType;rw[ha];rfl
   rw[ety]at st
   exact wpAny_pyNext_wide_end (I.ok.hd hc) st hx fun h' eb=>⟨rfl,I.turned (t':=s.toks) (fun b o hb e=>eb b o hb e) f0 f1 f3 f4 f5⟩
 self:=fun A i s Q E st h=>by
  cases ha:x.cps.all (· < 128) with
  |true=>
   have ety:strIterType x="str_ascii_iterator":=by unfold strIterType;rw[ha];rfl
   rw[ety]at st
   exact wpAny_pyIter_striter_ascii st h
  |false=>
   have ety:strIterType x="str_iterator":=by unfold strIterType;rw[ha];rfl
   rw[ety]at st
   exact wpAny_pyIter_striter_wide st h
def BH(tl:TE):TI:=fun σ H R=>tl σ H fun v H1=>∃x,v=.str x/\R (B3 x) H1
theorem Bd{l:Expr}{tl:TE}(hl:PE X l tl):PI X tg l (BH tl):=by
 intro pins s σ H R I h
 refine bx (hl pins s σ H _ I h) fun v s1 ⟨x,H1,I1,r1,q1⟩=>?_
 obtain⟨x,rfl,q⟩:=q1
 obtain⟨t,rfl⟩:=r1
 refine wpAny_pyIter_strU ?_
 refine⟨s1.heap.objs.size,[s1.heap.objs.size],_,_,H1,rfl,I1.kept (t':=s1.toks) fun b o e=>FR _ e,xa x t _,⟨_,FX _ rfl,rfl,rfl⟩,fun b hb=>?_,q⟩
 have e:b=s1.heap.objs.size:=by simpa using hb
 subst e
 exact I1.fpOk (Gc _) (I1.hok.fresh (Gc _))
def Cv(K:PySem.W.Frag)(a:Addr)(n:Nat):It:=
 ⟨fun i H=>∃xs x,aT K H a xs/\i<n/\xs[n-1-i]?=some x,fun i H x H'=>H'=H/\∀xs,aT K H a xs->xs[n-1-i]?=some x,fun i _=>i=n⟩
theorem yE{P:Program}{w:World}{K:PySem.W.Frag}{tg:Expr}(a it:Addr)(n:Nat):pP P w K tg (Cv K a n) [it] it (fun i h=>h.IsRevIter it a ((n:Int)-1-(i:Int))) where
 mem:=by simp
 obj:=fun i h st b hb=>by
  have e:b=it:=by simpa using hb
  subst e
  obtain⟨o,e,c,d⟩:=st
  exact⟨o,e,fun v z=>by rw[d]at z;cases z⟩
 keep:=fun i h h' st k=>st.at fun o e=>k it (by simp) o e
 item:=by
  intro X hP hw hK hc i pins s σ H E I hf st hg
  subst hP hw hK
  obtain⟨xs,x,hq,hi,hx⟩:=hg
  obtain⟨its,rv,p,hz⟩:=I.list hq
  obtain⟨u,hu,ru⟩:=rv.get hx
  obtain⟨f0,f1,f2,f3,f4,f5⟩:=hf it (by simp)
  have e:(n:Int)-1-(i:Int)=((n-1-i:Nat):Int):=by omega
  have st1:=st
  rw[e]at st1
  refine wpAny_pyNext_rev_item st1 p.isList (x:=u) (by simpa using hu) fun h' st' sb=>?_
  have e2:((n-1-i:Nat):Int)-1=(n:Int)-1-((i+1:Nat):Int):=by omega
  rw[e2]at st'
  have I1:aH X pins σ H {s with heap:=h' }:=I.turned (t':=s.toks) (fun b o hb e=>(sb.2 b hb).trans e) f0 f1 f3 f4 f5
  obtain⟨o,e,c,d⟩:=id st'
  exact⟨u,rfl,or (s:={s with heap:=h' }) e c d (by decide) ⟨x,H,I1,ru,⟨rfl,fun ys hy=>by rw[I.list_inj hy hq];exact hx⟩,st',fun b hb=>(hf b hb).1⟩⟩
 done:=by
  intro X hP hw hK hc i pins s σ H E I hf st hg
  subst hP hw hK
  obtain⟨f0,f1,f2,f3,f4,f5⟩:=hf it (by simp)
  have hi:i=n:=hg
  subst hi
  have e:(i:Int)-1-(i:Int) = -1:=by omega
  rw[e]at st
  exact wpAny_pyNext_rev_end (I.ok.hd hc) st fun h' eb=>⟨rfl,I.turned (t':=s.toks) (fun b o hb e=>eb b o hb e) f0 f1 f3 f4 f5⟩
 self:=fun _ _ _ _ _ st h=>wpAny_pyIter_revIter st h
def Bq(K:PySem.W.Frag)(ta:TA):TI:=fun σ H R=>ta σ H fun vs H1=>∃a xs,vs=[.ref a]/\aT K H1 a xs/\R (Cv K a xs.length) H1
theorem Bc{a:Expr}{ta:TA}{p pos:Pos}(hg:Gl X "reversed")(hm:X.mg "reversed"=none)(ha:PA X [a] ta)(hs:starEach [a] X.env=[(false,eval a X.env)]:=by rfl):PI X tg (.Call (.Name "reversed" p) [a] [] pos) (Bq X.K ta):=by
 intro pins s σ H R I h
 refine Call_ (dG I hg hm boot_reversed (PyProof.Rows.callWith_type1 (bx (ha pos pins s σ H _ I h) fun us s1 ⟨vs,H1,I1,r1,q1⟩=>?_) hs rfl))
 obtain⟨l,xs,rfl,hq,q⟩:=q1
 obtain⟨u,rfl,ru⟩:=r1.one
 cases ru
 obtain⟨its,rv,pl,hz⟩:=I1.list hq
 have hlen:=rv.length
 refine call_reversed_list pl.isList ?_
 have es:its.toArray.size=xs.length:=by rw[FY,hlen]
 rw[es]
 have I2:aH X pins σ H1 {s1 with heap:=s1.heap.push (revObj l ((xs.length:Int)-1))}:=I1.kept (t':=s1.toks) fun b o e=>FR _ e
 have st:(s1.heap.push (revObj l ((xs.length:Int)-1))).IsRevIter s1.heap.objs.size l ((xs.length:Int)-1-((0:Nat):Int)):=⟨_,FX _ rfl,rfl,by simp[revObj]⟩
 refine wpAny_pyIter_revIter st ?_
 refine⟨s1.heap.objs.size,[s1.heap.objs.size],_,_,H1,rfl,I2,yE l _ xs.length,st,fun b hb=>?_,q⟩
 have e:b=s1.heap.objs.size:=by simpa using hb
 subst e
 exact I1.fpOk (Gc _) (I1.hok.fresh (Gc _))
def Bw:V->Option Int->Option Int->Hp->VK->Prop:=fun x lo hi H Q=>∃z,x=.str z/\z.length<=sizeLine/\Q (.str (Txt.slice z lo hi)) H
theorem Bk:B7 X Bw:=by
 intro pins s σ H x v vl vu lo hi sl Q I rx hs pl pu h
 obtain⟨z,rfl,hz,q⟩:=h
 obtain⟨t,rfl⟩:=rx
 have fin:∀t' k,EP X pins σ Q (.str (Txt.slice z lo hi) t') {s with toks:=k}:=fun t' k=>⟨.str _,H,I.tok k,⟨t',rfl⟩,q⟩
 refine⟨"str",_,F.slot_str_getitem.lookup,typeIs_str _ _ _,?_⟩
 cases pl with
 |none=>
  cases pu with
  |none=>exact wpAny_getItem_str_slice (l:=none) (u:=none) (st:=none) hs rfl (post_val_or_str ⟨Gn (Txt.slice_le z _ _) hz,fin⟩)
  |int j uj=>exact wpAny_getItem_str_slice (l:=none) (u:=some (j,uj)) (st:=none) hs rfl (post_val_or_str ⟨Gn (Txt.slice_le z _ _) hz,fin⟩)
 |int i ui=>
  cases pu with
  |none=>exact wpAny_getItem_str_slice (l:=some (i,ui)) (u:=none) (st:=none) hs rfl (post_val_or_str ⟨Gn (Txt.slice_le z _ _) hz,fin⟩)
  |int j uj=>exact wpAny_getItem_str_slice (l:=some (i,ui)) (u:=some (j,uj)) (st:=none) hs rfl (post_val_or_str ⟨Gn (Txt.slice_le z _ _) hz,fin⟩)
def A7:V->Value
 | .ty n=>.type n
 | .ref a=>.ref a
 |_=>.none
def sV:V->Bool
 | .ty _=>true
 | .ref _=>true
 |_=>false
theorem zc{c:V}{u:Value}(r:aY c u)(h:sV c=true):u=A7 c:=by
 cases c with
 |ty n=>exact r
 |ref a=>exact r
 |_=>cases h
def BQ(K:PySem.W.Frag):List V->Hp->VK->Prop:=fun xs H Q=>∃x c t b,xs=[x,c]/\sV c=true/\h_ K H x t/\PySem.W.kitOne K t (A7 c)=some b/\Q (.bl b) H
theorem bX:fu X (.builtin "isinstance") (BQ X.K):=by
 intro pins s σ H xs us Q I r h
 obtain⟨x,c,t,b,rfl,hc,ty,e,q⟩:=h
 obtain⟨u,v,rfl,ru,rv⟩:=r.two
 rw[zc rv hc]
 exact wE I ru ty e fun tk=>⟨.bl b,H,I.tok tk,rfl,q⟩
theorem mY(K:PySem.W.Frag)(n:String):PySem.W.kitOne K (.type n) (.type n)=some true:=by
 unfold PySem.W.kitOne
 rw[if_pos (beq_self_eq_true _)]
inductive Dt where
 |non | bl (b:Bool) | int (i:Int) | str (x:Str) | lst (ds:List Dt) | tup (ds:List Dt)
mutual
def gD(K:PySem.W.Frag)(H:Hp):Dt->V->Prop
 | .non,v=>v=.non
 | .bl b,v=>v=.bl b
 | .int i,v=>v=.int i
 | .str x,v=>v=.str x
 | .lst ds,v=>∃a xs,v=.ref a/\aT K H a xs/\cT K H ds xs
 | .tup ds,v=>∃a xs,v=.ref a/\bq K H a xs/\cT K H ds xs
def cT(K:PySem.W.Frag)(H:Hp):List Dt->List V->Prop
 | [],xs=>xs=[]
 |d::ds,xs=>∃x r,xs=x::r/\gD K H d x/\cT K H ds r
end
mutual
def Dt.dep:Dt->Nat
 | .lst ds=>Dt.deps ds+1
 | .tup ds=>Dt.deps ds+1
 |_=>0
def Dt.deps:List Dt->Nat
 | []=>0
 |d::ds=>max (Dt.dep d) (Dt.deps ds)
end
theorem cT.length{K:PySem.W.Frag}{H:Hp}:∀{ds:List Dt} {xs:List V},cT K H ds xs->xs.length=ds.length
 | [],_,h=>by unfold cT at h;rw[h];rfl
 |d::ds,xs,h=>by
  unfold cT at h
  obtain⟨x,r,rfl,_,h2⟩:=h
  simp[cT.length h2]
theorem cT.get{K:PySem.W.Frag}{H:Hp}:∀{ds:List Dt} {xs:List V} {j:Nat} {x:V},cT K H ds xs->xs[j]?=some x->∃d,ds[j]?=some d/\gD K H d x
 | [],_,_,_,h,e=>by unfold cT at h;rw[h]at e;simp at e
 |d::ds,xs,j,x,h,e=>by
  unfold cT at h
  obtain⟨y,r,rfl,h1,h2⟩:=h
  cases j with
  |zero=>simp at e;subst e;exact⟨d,rfl,h1⟩
  |succ j=>
   obtain⟨d',e1,e2⟩:=cT.get (j:=j) h2 (by simpa using e)
   exact⟨d',by simpa using e1,e2⟩
theorem ic:∀{ds:List Dt} {j:Nat} {d:Dt},ds[j]?=some d->d.dep<=Dt.deps ds
 | [],_,_,e=>by simp at e
 |d'::ds,0,d,e=>by simp at e;subst e;unfold Dt.deps;omega
 |d'::ds,j+1,d,e=>by
  have:=ic (ds:=ds) (j:=j) (by simpa using e)
  unfold Dt.deps;omega
theorem fS(n:Nat):(List.range n).all (fun _=>true)=true:=by simp
theorem x5{pins:List (Addr×Obj)}{σ:St}{H:Hp}{s:Shared}(I:aH X pins σ H s):∀(n:Nat) (d:Dt) (A:Around) {v u:V} {vv uu:Value},d.dep<=n->A.units+n<cLine->gD X.K H d v->gD X.K H d u->aY v vv->aY u uu->SeqAt.EqAt A s vv uu true:=by
 intro n
 induction n with
 |zero=>
  intro d A v u vv uu hd hA h1 h2 r1 r2
  cases d with
  |non=>unfold gD at h1 h2;subst h1 h2;have:=gp (A:=A) (s:=s) r1 r2 rfl rfl;exact this
  |bl b=>unfold gD at h1 h2;subst h1 h2;have:=gp (A:=A) (s:=s) r1 r2 rfl rfl;simpa[sH]using this
  |int i=>unfold gD at h1 h2;subst h1 h2;have:=gp (A:=A) (s:=s) r1 r2 rfl rfl;simpa[sH]using this
  |str x=>unfold gD at h1 h2;subst h1 h2;have:=gp (A:=A) (s:=s) r1 r2 rfl rfl;simpa[sH]using this
  |lst ds=>unfold Dt.dep at hd;omega
  |tup ds=>unfold Dt.dep at hd;omega
 |succ n ih=>
  intro d A v u vv uu hd hA h1 h2 r1 r2
  cases d with
  |non=>unfold gD at h1 h2;subst h1 h2;have:=gp (A:=A) (s:=s) r1 r2 rfl rfl;exact this
  |bl b=>unfold gD at h1 h2;subst h1 h2;have:=gp (A:=A) (s:=s) r1 r2 rfl rfl;simpa[sH]using this
  |int i=>unfold gD at h1 h2;subst h1 h2;have:=gp (A:=A) (s:=s) r1 r2 rfl rfl;simpa[sH]using this
  |str x=>unfold gD at h1 h2;subst h1 h2;have:=gp (A:=A) (s:=s) r1 r2 rfl rfl;simpa[sH]using this
  |lst ds=>
   unfold gD at h1 h2
   obtain⟨a,xs,rfl,ha,hxs⟩:=h1
   obtain⟨b,ys,rfl,hb,hys⟩:=h2
   cases r1;cases r2
   by_cases hab:a=b
   ·subst hab;exact SeqAt.EqAt.same _
   ·unfold Dt.dep at hd
    obtain⟨its,ra,pa,_⟩:=I.list ha
    obtain⟨its2,rb,pb,_⟩:=I.list hb
    have l1:=ra.length;have l2:=rb.length;have l3:=hxs.length;have l4:=hys.length
    have hsz:its.toArray.size=its2.toArray.size:=by simp;omega
    have q:=SeqAt.RcAt.lists (A:=A) (s:=s) (e:=fun _=>true) pa.isList pb.isList hsz (by omega) fun j g1 g2=>by
     have g1':j<its.length:=by simpa using g1
     have g2':j<its2.length:=by simpa using g2
     have x1:xs[j]?=some xs[j]:=FP (by omega)
     have y1:ys[j]?=some ys[j]:=FP (by omega)
     obtain⟨d,e1,rd1⟩:=hxs.get x1
     obtain⟨d',e2,rd2⟩:=hys.get y1
     rw[e1]at e2;cases e2
     obtain⟨w1,f1,rr1⟩:=ra.get x1
     obtain⟨w2,f2,rr2⟩:=rb.get y1
     rw[FP g1']at f1
     rw[FP g2']at f2
     cases f1;cases f2
     have hdep:=ic e1
     simp only[GD]
     exact ih d A.in1 (by omega) (by show A.units+1+n<cLine;omega) rd1 rd2 rr1 rr2
    rw[fS]at q
    exact SeqAt.EqAt.of_refs hab q
  |tup ds=>
   unfold gD at h1 h2
   obtain⟨a,xs,rfl,ha,hxs⟩:=h1
   obtain⟨b,ys,rfl,hb,hys⟩:=h2
   cases r1;cases r2
   by_cases hab:a=b
   ·subst hab;exact SeqAt.EqAt.same _
   ·unfold Dt.dep at hd
    obtain⟨its,ra,pa,_⟩:=I.tuple ha
    obtain⟨its2,rb,pb,_⟩:=I.tuple hb
    have l1:=ra.length;have l2:=rb.length;have l3:=hxs.length;have l4:=hys.length
    have q:=SeqAt.RcAt.tuples (A:=A) (s:=s) (e:=fun _=>true) (show s.heap.IsTuple a its.toArray from pa) (show s.heap.IsTuple b its2.toArray from pb) (by omega) fun j g1 g2=>by
     have g1':j<its.length:=by simpa using g1
     have g2':j<its2.length:=by simpa using g2
     have x1:xs[j]?=some xs[j]:=FP (by omega)
     have y1:ys[j]?=some ys[j]:=FP (by omega)
     obtain⟨d,e1,rd1⟩:=hxs.get x1
     obtain⟨d',e2,rd2⟩:=hys.get y1
     rw[e1]at e2;cases e2
     obtain⟨w1,f1,rr1⟩:=ra.get x1
     obtain⟨w2,f2,rr2⟩:=rb.get y1
     rw[FP g1']at f1
     rw[FP g2']at f2
     cases f1;cases f2
     have hdep:=ic e1
     simp only[GD]
     exact ih d A.in1 (by omega) (by show A.units+1+n<cLine;omega) rd1 rd2 rr1 rr2
    have e0:((List.range (min its.toArray.size its2.toArray.size)).all (fun _=>true)&&its.toArray.size==its2.toArray.size)=true:=by
     rw[fS,Bool.true_and];simp;omega
    rw[e0]at q
    exact SeqAt.EqAt.of_refs hab q
def y0(K:PySem.W.Frag)(neg:Bool):R2:=fun x y H Q=>
 (∃ds,Dt.deps ds<=40/\((gD K H (.lst ds) x/\gD K H (.lst ds) y)\/(gD K H (.tup ds) x/\gD K H (.tup ds) y))/\Q (.bl (!neg)) H) \/
 (∃a b xs ys,x=.ref a/\y=.ref b/\aT K H a xs/\aT K H b ys/\xs.length≠ys.length/\Q (.bl neg) H)
theorem xl(hu:X.A.units+64<cLine):jN X (compareOp .Eq) (y0 X.K false):=by
 intro pins s σ H x y v u Q I rx ry h
 rcases h with⟨ds,hd,h,q⟩ | ⟨a,b,xs,ys,rfl,rfl,ha,hb,hne,q⟩
 ·have fin:EP X pins σ Q (.bool true) s:=⟨.bl true,H,I,rfl,q⟩
  have item:∀{xs ys:List V} {its its2:List Value},cT X.K H ds xs->cT X.K H ds ys->aS xs its->aS ys its2->∀j (h1:j<its.toArray.size) (h2:j<its2.toArray.size),SeqAt.EqAt X.A.in1 s its.toArray[j] its2.toArray[j] true:=fun{xs ys its its2} hxs hys ra rb j g1 g2=>by
   have l1:=ra.length;have l2:=rb.length;have l3:=hxs.length;have l4:=hys.length
   have g1':j<its.length:=by simpa using g1
   have g2':j<its2.length:=by simpa using g2
   have x1:xs[j]?=some xs[j]:=FP (by omega)
   have y1:ys[j]?=some ys[j]:=FP (by omega)
   obtain⟨d,e1,rd1⟩:=hxs.get x1
   obtain⟨d',e2,rd2⟩:=hys.get y1
   rw[e1]at e2;cases e2
   obtain⟨w1,f1,rr1⟩:=ra.get x1
   obtain⟨w2,f2,rr2⟩:=rb.get y1
   rw[FP g1']at f1
   rw[FP g2']at f2
   cases f1;cases f2
   have hdep:=ic e1
   simp only[GD]
   exact x5 I 40 d X.A.in1 (by omega) (by show X.A.units+1+40<cLine;omega) rd1 rd2 rr1 rr2
  rcases h with⟨h1,h2⟩ | ⟨h1,h2⟩
  ·unfold gD at h1 h2
   obtain⟨a,xs,rfl,ha,hxs⟩:=h1
   obtain⟨b,ys,rfl,hb,hys⟩:=h2
   cases rx;cases ry
   obtain⟨its,ra,pa,_⟩:=I.list ha
   obtain⟨its2,rb,pb,_⟩:=I.list hb
   have l1:=ra.length;have l2:=rb.length;have l3:=hxs.length;have l4:=hys.length
   have q:=SeqAt.RcAt.lists (A:=X.A) (s:=s) (e:=fun _=>true) pa.isList pb.isList (by simp;omega) (by omega) (item hxs hys ra rb)
   rw[fS]at q
   exact q _ _ _ _ fin
  ·unfold gD at h1 h2
   obtain⟨a,xs,rfl,ha,hxs⟩:=h1
   obtain⟨b,ys,rfl,hb,hys⟩:=h2
   cases rx;cases ry
   obtain⟨its,ra,pa,_⟩:=I.tuple ha
   obtain⟨its2,rb,pb,_⟩:=I.tuple hb
   have l1:=ra.length;have l2:=rb.length;have l3:=hxs.length;have l4:=hys.length
   have q:=SeqAt.RcAt.tuples (A:=X.A) (s:=s) (e:=fun _=>true) (show s.heap.IsTuple a its.toArray from pa) (show s.heap.IsTuple b its2.toArray from pb) (by omega) (item hxs hys ra rb)
   have e0:((List.range (min its.toArray.size its2.toArray.size)).all (fun _=>true)&&its.toArray.size==its2.toArray.size)=true:=by
    rw[fS,Bool.true_and];simp;omega
   rw[e0]at q
   exact q _ _ _ _ fin
 ·cases rx;cases ry
  obtain⟨its,ra,pa,_⟩:=I.list ha
  obtain⟨its2,rb,pb,_⟩:=I.list hb
  have l1:=ra.length;have l2:=rb.length
  exact SeqAt.RcAt.lists_lengths pa.isList pb.isList (by simp;omega) (by omega) _ _ _ _ ⟨.bl false,H,I,rfl,q⟩
theorem w8(hu:X.A.units+64<cLine):jN X (compareOp .NotEq) (y0 X.K true):=by
 intro pins s σ H x y v u Q I rx ry h
 rcases h with⟨ds,hd,h,q⟩ | ⟨a,b,xs,ys,rfl,rfl,ha,hb,hne,q⟩
 ·have fin:EP X pins σ Q (.bool false) s:=⟨.bl false,H,I,rfl,q⟩
  have item:∀{xs ys:List V} {its its2:List Value},cT X.K H ds xs->cT X.K H ds ys->aS xs its->aS ys its2->∀j (h1:j<its.toArray.size) (h2:j<its2.toArray.size),SeqAt.EqAt X.A.in1 s its.toArray[j] its2.toArray[j] true:=fun{xs ys its its2} hxs hys ra rb j g1 g2=>by
   have l1:=ra.length;have l2:=rb.length;have l3:=hxs.length;have l4:=hys.length
   have g1':j<its.length:=by simpa using g1
   have g2':j<its2.length:=by simpa using g2
   have x1:xs[j]?=some xs[j]:=FP (by omega)
   have y1:ys[j]?=some ys[j]:=FP (by omega)
   obtain⟨d,e1,rd1⟩:=hxs.get x1
   obtain⟨d',e2,rd2⟩:=hys.get y1
   rw[e1]at e2;cases e2
   obtain⟨w1,f1,rr1⟩:=ra.get x1
   obtain⟨w2,f2,rr2⟩:=rb.get y1
   rw[FP g1']at f1
   rw[FP g2']at f2
   cases f1;cases f2
   have hdep:=ic e1
   simp only[GD]
   exact x5 I 40 d X.A.in1 (by omega) (by show X.A.units+1+40<cLine;omega) rd1 rd2 rr1 rr2
  rcases h with⟨h1,h2⟩ | ⟨h1,h2⟩
  ·unfold gD at h1 h2
   obtain⟨a,xs,rfl,ha,hxs⟩:=h1
   obtain⟨b,ys,rfl,hb,hys⟩:=h2
   cases rx;cases ry
   obtain⟨its,ra,pa,_⟩:=I.list ha
   obtain⟨its2,rb,pb,_⟩:=I.list hb
   have l1:=ra.length;have l2:=rb.length;have l3:=hxs.length;have l4:=hys.length
   have q:=SeqAt.RcNeAt.lists (A:=X.A) (s:=s) (e:=fun _=>true) pa.isList pb.isList (by simp;omega) (by omega) (item hxs hys ra rb)
   rw[fS]at q
   exact q _ _ _ _ fin
  ·unfold gD at h1 h2
   obtain⟨a,xs,rfl,ha,hxs⟩:=h1
   obtain⟨b,ys,rfl,hb,hys⟩:=h2
   cases rx;cases ry
   obtain⟨its,ra,pa,_⟩:=I.tuple ha
   obtain⟨its2,rb,pb,_⟩:=I.tuple hb
   have l1:=ra.length;have l2:=rb.length;have l3:=hxs.length;have l4:=hys.length
   have q:=SeqAt.RcNeAt.tuples (A:=X.A) (s:=s) (e:=fun _=>true) (show s.heap.IsTuple a its.toArray from pa) (show s.heap.IsTuple b its2.toArray from pb) (by omega) (item hxs hys ra rb)
   have e0:((List.range (min its.toArray.size its2.toArray.size)).all (fun _=>true)&&its.toArray.size==its2.toArray.size)=true:=by
    rw[fS,Bool.true_and];simp;omega
   rw[e0]at q
   exact q _ _ _ _ fin
 ·cases rx;cases ry
  obtain⟨its,ra,pa,_⟩:=I.list ha
  obtain⟨its2,rb,pb,_⟩:=I.list hb
  have l1:=ra.length;have l2:=rb.length
  exact SeqAt.RcNeAt.lists_lengths pa.isList pb.isList (by simp;omega) (by omega) _ _ _ _ ⟨.bl true,H,I,rfl,q⟩
end
end L2
namespace bS
abbrev D3:=List Nat
abbrev bS:=List D3
def jA(p:bS)(r c:Nat):Prop:=p.length=r/\∀x∈p,x.length=c
def jC(p:bS):bS:=p.map List.reverse
def col(p:bS)(i:Nat):D3:=p.reverse.map fun x=>x.getD i 0
def gz(p:bS):bS:=(List.range (p.headD []).length).map (col p)
def b0:Nat->bS->bS
 |0,p=>p
 |n+1,p=>b0 n (gz p)
def turned(p:bS)(t:Nat):bS:=b0 (t%4) (if 4<=t then jC p else p)
theorem xG{p:bS}{r c i:Nat}(h:jA p r c)(hi:i<r):(p.getD i []).length=c:=by
 have hl:i<p.length:=by rw[h.1];exact hi
 rw[List.getD_eq_getElem?_getD,FP hl]
 exact h.2 _ (FZ hl)
theorem df{p:bS}{r c:Nat}(h:jA p r c)(hr:0<r):(p.headD []).length=c:=by
 have:=xG h hr
 cases p with
 |nil=>have:=h.1;simp at this;omega
 |cons x p=>simpa using this
theorem lQ{p:bS}{r c:Nat}(h:jA p r c):jA (jC p) r c:=by
 refine⟨by simp[jC,h.1],fun x hx=>?_⟩
 obtain⟨y,hy,rfl⟩:=GA.mp hx
 rw[F8];exact h.2 y hy
theorem qC{p:bS}{r c:Nat}(h:jA p r c)(hr:0<r):jA (gz p) c r:=by
 refine⟨by unfold gz;rw[FS,List.length_range,df h hr],fun x hx=>?_⟩
 obtain⟨i,_,rfl⟩:=GA.mp hx
 simp[col,h.1]
theorem fG:∀(n:Nat) {p:bS} {r c:Nat},jA p r c->0<r->0<c->jA (b0 n p) (if n%2=0 then r else c) (if n%2=0 then c else r)
 |0,_,_,_,h,_,_=>h
 |n+1,p,r,c,h,hr,hc=>by
  have:=fG n (qC h hr) hc hr
  show jA (b0 n (gz p)) _ _
  by_cases e:n%2=0
  ·rw[if_pos e,if_pos e]at this
   rw[if_neg (by omega),if_neg (by omega)];exact this
  ·rw[if_neg e,if_neg e]at this
   rw[if_pos (by omega),if_pos (by omega)];exact this
theorem qq(a b:Nat)(p:bS):b0 a (b0 b p)=b0 (b+a) p:=by
 induction b generalizing p with
 |zero=>rw[Nat.zero_add];rfl
 |succ b ih=>show b0 a (b0 b (gz p))=_;rw[ih,Nat.add_right_comm];rfl
def after(t u:Nat):Nat:=if u<4 then t/4*4+(t+u)%4 else(1-t/4)*4+(u+8-t)%4
def CY(t:Nat):Nat:=if t<4 then(4-t)%4 else t
end bS
namespace QL
open PySem L2 bS
def tx(r:List Nat):Str:=⟨r.toArray⟩
def az(p:bS):List V:=p.map fun r=>V.str (tx r)
theorem aA(r:List Nat):(tx r).length=r.length:=by show r.toArray.size=r.length;simp
theorem fA(r:List Nat):(tx r).cps.toList=r:=by show r.toArray.toList=r;simp
theorem aJ(p:bS):(az p).length=p.length:=by unfold az;simp
theorem bI{p:bS}{i:Nat}(h:i<p.length):(az p)[i]?=some (V.str (tx p[i])):=by unfold az;rw[FU,FP h];rfl
theorem qi(p:bS)(r:List Nat):az (p++[r])=az p++[V.str (tx r)]:=by unfold az;simp
theorem yH:∀(ys:List (List Nat)),Txt.join (Str.ofString "") (ys.map tx)=tx ys.flatten
 | []=>rfl
 |y::ys=>by
  have key:∀(zs:List (List Nat)) (a:List Nat),(zs.map tx).foldl (fun acc (p:Str)=>acc++(Str.ofString "").cps++p.cps) a.toArray=(a++zs.flatten).toArray:=by
   intro zs
   induction zs with
   |nil=>intro a;simp
   |cons z zs ih=>
    intro a
    rw[Gk,List.foldl_cons]
    have e:a.toArray++(Str.ofString "").cps++(tx z).cps=(a++z).toArray:=by
     have e0:(Str.ofString "").cps=#[]:=rfl
     rw[e0]
     show a.toArray ++ #[]++z.toArray=_
     simp
    rw[e,ih]
    simp
  show(⟨(ys.map tx).foldl (fun acc (p:Str)=>acc++(Str.ofString "").cps++p.cps) (tx y).cps⟩:Str)=_
  show(⟨(ys.map tx).foldl (fun acc (p:Str)=>acc++(Str.ofString "").cps++p.cps) y.toArray⟩:Str)=_
  rw[key]
  rfl
theorem lF(r:List Nat):Txt.join (Str.ofString "") (r.map fun c=>(⟨#[c]⟩:Str))=tx r:=by
 have e:(r.map fun c=>(⟨#[c]⟩:Str))=(r.map fun c=>[c]).map tx:=by rw[F5];rfl
 rw[e,yH]
 congr 1
 clear e
 induction r with
 |nil=>rfl
 |cons c r ih=>simp[ih]
theorem bw{n:Nat}(h:n<=1000000):n<sizeLine:=by have:=sizeLine_eq;omega
theorem ak{n:Nat}(h:n<=1000000):n<=sizeLine:=by have:=sizeLine_eq;omega
theorem ad{H:Hp}{l:Addr}{o:HO}(h:H l=none):aq H (ap H l o):=fun b u e=>by rw[aj (aG e h)];exact e
theorem aX{H0 H:Hp}{l:Addr}{o:HO}(s:aq H0 H)(h:H0 l=none):aq H0 (ap H l o):=fun b u e=>by rw[aj (aG e h)];exact s b u e
def j_(H:Hp)(p:bS)(Q:VK):Prop:=∀(l:Addr) (H':Hp),H l=none->H' l=some (.lst (az p))->aq H H'->Q (.ref l) H'
theorem AZ{α:Type}{xs:List α}{i:Int}(h0:0<=i)(h1:i<xs.length):∃v,v∈xs/\hZ xs i=some v:=by
 have hb:i.toNat<xs.length:=by omega
 obtain⟨j,hj⟩:∃j:Nat,i=(j:Int):=⟨i.toNat,by omega⟩
 subst hj
 exact⟨xs[j]'(by omega),FZ _,aV (FP (by omega))⟩
theorem qJ(K:PySem.W.Frag):PySem.W.kitOne K (.type "int") (.type "bool")=some false:=by kernel_rfl
end QL
namespace L2
open PySem PySem.Spec PyProof.Rows
section
variable {X:Cx}
theorem aO:fu X (.builtin "len") (fun xs H Q=>∃p ys,xs=[.ref p]/\aT X.K H p ys/\Q (.int ys.length) H):=fun pins s σ H xs us Q I r ⟨p,ys,e,h,q⟩=>ke pins s σ H xs us Q I r ⟨p,ys,e,.inl h,q⟩
theorem iU:fu X (.builtin "len") (fun xs H Q=>∃p ys,xs=[.ref p]/\bq X.K H p ys/\Q (.int ys.length) H):=fun pins s σ H xs us Q I r ⟨p,ys,e,h,q⟩=>ke pins s σ H xs us Q I r ⟨p,ys,e,.inr h,q⟩
theorem vf(i j:Int):(wc (.int i) (.int j)=true)=True:=by simp[wc]
theorem vi(i j:Str):(wc (.str i) (.str j)=true)=True:=by simp[wc]
theorem iq{a:Expr}{ta:TE}(ha:PE X a ta)(he:∀whole,isTrue a X.env whole=(do let v <- whole;standAt a.pos;holding [v] (truthy v))):PT X a (xV ta):=by
 intro pins s σ H Q I h
 rw[he]
 refine wpAny_bind (bx (ha pins s σ H _ I h) fun v s1 ⟨x,H1,I1,r1,k,e,q⟩=>?_)
 subst e
 cases r1
 exact wpAny_bind (wpAny_standAt (wpAny_holding (wpAny_truthy_bool ⟨H1,I1,q⟩)))
def uq(J:It)(g:TG)(tb:TS)(D:ip)(σ:St)(H:Hp):Prop:=∃W:Nat->Nat->St->Hp->Prop,(∃m,W 0 m σ H)/\∀i m σ H,W i m σ H ->
 (J.stop i H/\D.nx σ H)\/(J.go i H/\∃N:St->Hp->Prop,(∀σ' H',N σ' H'->∃m',m'<m/\W (i+1) m' σ' H')/\∀x H',J.yld i H x H'->g x σ H' fun σ2 H2=>tb {D with nx:=N,ct:=N,bk:=D.nx} σ2 H2)
def zW(wi:TI)(g:TG)(tb:TS):TS:=fun D σ H=>wi σ H fun J H1=>uq J g tb D σ H1
theorem bD{tg iter:Expr}{body:List Stmt}{wi:TI}{g:TG}{tb:TS}{pos:Pos}(hp:PassesOwn (model X.prog X.w) X.A X.env X.xe)(hc:X.calm=true)(hi:PI X tg iter wi)(hg:PG X tg g)(hb:qV X body tb)
  (hs:∀x,foldedSetIterable iter X.env x=pure x:=by intro _;rfl):PS X (.For tg iter body [] pos) (zW wi g tb):=Ay hp hc hi hg hb hs
section
variable {K:PySem.W.Frag}{g:TG}{tb:TS}{D:ip}{σ:St}{H:Hp}
theorem fT{a:Addr}{xs:List V}(Pv:Nat->St->Hp->Prop)(h0:Pv 0 σ H)(hl:∀i σ H,i<=xs.length->Pv i σ H->aT K H a xs)
  (hs:∀i x σ H,xs[i]?=some x->Pv i σ H->g x σ H fun σ2 H2=>tb {D with nx:=Pv (i+1),ct:=Pv (i+1),bk:=D.nx} σ2 H2) (hd:∀σ H,Pv xs.length σ H->D.nx σ H):uq (yG K a) g tb D σ H:=ya Pv h0 hl hs hd
theorem mw{a:Addr}{xs:List V}(Pv:Nat->St->Hp->Prop)(h0:Pv 0 σ H)(hl:∀i σ H,i<=xs.length->Pv i σ H->bq K H a xs)
  (hs:∀i x σ H,xs[i]?=some x->Pv i σ H->g x σ H fun σ2 H2=>tb {D with nx:=Pv (i+1),ct:=Pv (i+1),bk:=D.nx} σ2 H2) (hd:∀σ H,Pv xs.length σ H->D.nx σ H):uq (Bp K a) g tb D σ H:=zC Pv h0 hl hs hd
theorem eY{lo:Int}{n:Nat}(Pv:Nat->St->Hp->Prop)(h0:Pv 0 σ H)
  (hs:∀i σ H,i<n->Pv i σ H->g (.int (lo+i)) σ H fun σ2 H2=>tb {D with nx:=Pv (i+1),ct:=Pv (i+1),bk:=D.nx} σ2 H2) (hd:∀σ H,Pv n σ H->D.nx σ H):uq (yL lo n) g tb D σ H:=vG Pv h0 hs hd
end
end
theorem aR:bootBuiltins "len"=some (.builtin "len"):=by decide +kernel
theorem uS:bootBuiltins "list"=some (.type "list"):=by decide +kernel
theorem nh:bootBuiltins "tuple"=some (.type "tuple"):=by decide +kernel
theorem AI:bootBuiltins "int"=some (.type "int"):=by decide +kernel
theorem zw:bootBuiltins "bool"=some (.type "bool"):=by decide +kernel
theorem pT:bootBuiltins "str"=some (.type "str"):=by decide +kernel
theorem cS:bootBuiltins "isinstance"=some (.builtin "isinstance"):=by decide +kernel
theorem Bj:bootBuiltins "all"=some (.builtin "all"):=by decide +kernel
end L2
namespace PtM
open PySem PySem.Builtin.Str PySem.StrLaws
end PtM
namespace L2
open PySem PySem.Spec PyProof.Rows
section
variable {X:Cx}{a b c d:Expr}{ta tb tc td:TE}{pos:Pos}
def BY(K:PySem.W.Frag):List V->Hp->VK->Prop:=fun xs H Q=>∃(p:Addr) (bs:List Bool),xs=[.ref p]/\aT K H p (bs.map V.bl)/\Q (.bl (bs.all id)) H
theorem uZ:∀{bs:List Bool} {us:List Value} {i:Nat} {u:Value},aS (bs.map V.bl) us->us[i]?=some u->∃k,bs[i]?=some k/\u=.bool k
 | [],_,_,_,.nil,e=>by simp at e
 |k::bs,_,0,u,.cons r _,e=>by simp at e;subst e;exact⟨k,rfl,r⟩
 |k::bs,_,i+1,u,.cons _ t,e=>by
  obtain⟨k',h1,h2⟩:=uZ (i:=i) t (by simpa using e)
  exact⟨k',by simpa using h1,h2⟩
theorem wl(bs:List Bool):((List.range bs.length).all fun i=>(bs[i]?).getD true)=bs.all id:=by
 rw[Bool.eq_iff_iff,GB,GB]
 constructor
 ·intro h x hx
  obtain⟨i,hi,e⟩:=List.getElem_of_mem hx
  have q:=h i (List.mem_range.mpr hi)
  rw[FP hi,Option.getD_some,e]at q
  exact q
 ·intro h i hi
  have hi':=List.mem_range.mp hi
  rw[FP hi',Option.getD_some]
  exact h _ (FZ hi')
theorem xj(hc:X.calm=true):fu X (.builtin "all") (BY X.K):=by
 intro pins s σ H xs us Q I r h
 obtain⟨p,bs,rfl,hs,q⟩:=h
 obtain⟨u,rfl,ru⟩:=r.one
 cases ru
 obtain⟨its,rv,pl,_⟩:=I.list hs
 have hlt:p<s.heap.objs.size:=by obtain⟨_,e,_⟩:=pl.isList;exact Gg e
 have hlen:its.length=bs.length:=by rw[<- rv.length,FS]
 refine call_all_walk (wpAny_pyIter_list pl.isList ?_)
 refine⟨s.heap.objs.size,[s.heap.objs.size,p],[s.heap.objs.size],its.toArray.size,_,_,fun i=>(bs[i]?).getD true,rfl,Walks.list (A:=X.A.in1) (I.ok.hd hc) _ p (F_ hlt) its.toArray,
  ⟨⟨_,FX _ rfl,rfl,rfl⟩,pl.isList.push _⟩,fun i v s' Q' E' hP hQ=>?_,fun h' tk hk=>?_⟩
 ·obtain⟨k,e,rfl⟩:=uZ (i:=i) rv (by simpa using hP)
  dsimp only at hQ
  rw[e,Option.getD_some]at hQ
  exact wpAny_truthy_bool hQ
 ·have e:((List.range its.toArray.size).all fun i=>(bs[i]?).getD true)=bs.all id:=by rw[FY,hlen];exact wl bs
  rw[e]
  exact⟨.bl _,H,I.kept (t':=tk) fun b o eo=>hk b o (fun hm=>by rw[FT.mp hm]at eo;exact Go _ (Gg eo)) (FR _ eo),rfl,q⟩
end
section
variable {K:PySem.W.Frag}{g:TG}{ti:TT}{te:TE}{σ:St}{H:Hp}{Q:List V->Hp->Prop}
end
end L2
namespace QL
open PySem L2 bS PySem.Builtin PySem.Builtin.Str
theorem sU(row:List Nat)(i k:Nat)(h:i+k<=row.length):((List.range k).map fun m=>i+m).filterMap (fun j=>row[j]?)=(row.drop i).take k:=by
 rw[List.filterMap_map]
 induction k with
 |zero=>simp
 |succ k ih=>
  rw[List.range_succ,List.filterMap_append,ih (by omega),List.take_add_one,List.getElem?_drop]
  have e:i+k<row.length:=by omega
  simp[FP e]
def wK(n:Nat)(d:Int):Option Int->Int
 |none=>d
 |some i=>max 0 (min (if i<0 then i+(n:Int) else i) (n:Int))
theorem sv(n d:Nat)(v:Option Int):wK n (d:Int) v=((HT.sIx n d v:Nat):Int):=by
 cases v with
 |none=>rfl
 |some v=>
  show max 0 (min (if v<0 then v+(n:Int) else v) (n:Int))=(((if v<0 then(v+(n:Int)).toNat else min v.toNat n:Nat)):Int)
  by_cases hv:v<0
  ·rw[if_pos hv,if_pos hv,Int.max_def,Int.min_def]
   split<;>split at * <;> omega
  ·rw[if_neg hv,if_neg hv,Int.max_def,Int.min_def]
   split<;>split at * <;> omega
theorem ur(lo hi:Option Int)(n:Nat):strSliceIndices lo hi 1 n=sliceRange (wK n ((0:Nat):Int) lo) (wK n (n:Int) hi) 1:=by cases lo<;>cases hi<;>rfl
theorem vT(row:List Nat)(lo hi:Option Int):Txt.slice (tx row) lo hi=tx ((row.drop (HT.sIx row.length 0 lo)).take (HT.sIx row.length row.length hi-HT.sIx row.length 0 lo)):=by
 have hl:=HT.sIx_le row.length 0 (Gd _) lo
 have hh:=HT.sIx_le row.length row.length (Gc _) hi
 have key:strSliceIndices lo hi 1 (tx row).length=(List.range (HT.sIx row.length row.length hi-HT.sIx row.length 0 lo)).map fun m=>HT.sIx row.length 0 lo+m:=by
  rw[aA,ur,sv,sv]
  generalize HT.sIx row.length 0 lo=a
  generalize HT.sIx row.length row.length hi=b
  unfold sliceRange
  have en:(if(1:Int)>0 then(if(a:Int)<(b:Int) then((b:Int)-(a:Int)+1-1)/1 else 0) else(if(a:Int)>(b:Int) then((a:Int)-(b:Int)-1-1)/(-1) else 0)).toNat=b-a:=by
   rw[if_pos (by decide)]
   split<;>omega
  show(List.range (if(1:Int)>0 then(if(a:Int)<(b:Int) then((b:Int)-(a:Int)+1-1)/1 else 0) else(if(a:Int)>(b:Int) then((a:Int)-(b:Int)-1-1)/(-1) else 0)).toNat).map (fun(k:Nat)=>((a:Int)+1*(k:Int)).toNat)=_
  rw[en]
  refine List.map_congr_left fun m _=>?_
  omega
 unfold Txt.slice
 rw[key]
 generalize HT.sIx row.length 0 lo=a at hl ⊢
 generalize HT.sIx row.length row.length hi=b at hh ⊢
 by_cases hab:a+(b-a)<=row.length
 ·have e:(((List.range (b-a)).map fun m=>a+m).filterMap fun j=>(tx row).cps[j]?)=(row.drop a).take (b-a):=by
   rw[<- sU row a (b-a) hab]
   congr 1
   funext j
   show row.toArray[j]?=row[j]?
   simp
  rw[e]
  split
  ·rename_i hw
   simp at hw
   rw[aA]at hw
   have ha0:a=0:=by omega
   have hb0:b-a=row.length:=by omega
   rw[ha0,GL]
   rw[ha0]at hb0
   rw[hb0,Gv]
  ·rfl
 ·exact absurd hab (by omega)
end QL
namespace L2
open PySem PySem.Spec PyProof.Rows
section
variable {X:Cx}{K:PySem.W.Frag}{tg:Expr}
theorem t5(hK:X.K=K):fu X (.builtin "len") (fun xs H Q=>∃p ys,xs=[.ref p]/\aT K H p ys/\Q (.int ys.length) H):=hK▸aO
theorem mW(hK:X.K=K):Bo X (wH K):=hK▸bc
theorem kt(hK:X.K=K):Bo X (wj K):=hK▸aN
theorem yo(hK:X.K=K):AF X "str.join" (wW K):=hK▸mr
end
end L2
namespace PySem
open Sem (wp)
def Fa(cp:Value->Prop)(h base:Heap)(e:Addr)(cls:Value)(od:Option Addr)(fl:Value):Prop:=
 ∃oe vs T oT ts,h.get? e=some oe/\oe.cls=cls/\oe.dict=od/\oe.data=.fields vs/\vs[1]?=some (.ref T)/\base.get? T=none/\T≠e/\h.get? T=some oT/\oT.data=.fields ts/\ts[3]?=some fl/\∃cx,vs[2]?=some cx/\cp cx
structure kh(cp:Value->Prop)(base:Heap)(l:List Env)(e:Addr)(cls:Value)(od:Option Addr)(fl:Value)(h:Heap):Prop where
 st:base.StaysIn h
 new:base.get? e=none
 ff:h.FunFrames base l
 tr:Fa cp h base e cls od fl
theorem mD(o:Obj)(f:Array Value->Array Value):(Obj.mapFields f o).dict=o.dict:=by unfold Obj.mapFields;split<;>rfl
section
variable {cp:Value->Prop}{M:Model}{A:Around}{E:Value->Shared->Prop}{s:Shared}{base:Heap}{env:Env}{outer:List Env}{L e:Addr}{Q:Unit->Shared->Prop}
theorem uB{cls fl:Value}{od:Option Addr}{l:List Env}(x:kh cp base l e cls od fl s.heap)(h:∀h',kh cp base l e cls od .none h'->s.heap.UpToSlots h'->Q () {s with heap:=h' }):wpAny M A (setFlight (.ref e) none) Q E s:=by
 obtain⟨oe,vs,T,oT,ts,he,hc,ho,hd,h1,hnT,hTe,hT,hdT,h3,hcx⟩:=x.tr
 have hsz:3<ts.size:=(Array.getElem?_eq_some_iff.mp h3).1
 have oth:∀b,b≠T->(s.heap.update T (Obj.mapFields (·.setIfInBounds 3 Value.none))).get? b=s.heap.get? b:=fun b hb=>FW _ _ (Ne.symm hb)
 have nrec:∀b o,s.heap.get? b=some o->(∀vs,o.data≠.fields vs)->b≠T:=fun b o hb hnf q=>by rw[q,hT]at hb;injection hb with hb;subst hb;exact hnf ts hdT
 unfold setFlight
 refine wpAny_bind (wpAny_field he hd h1 ?_)
 rw[if_pos (show(Value.ref T != Value.none)=true from by simp)]
 refine wpAny_setField hT hdT hsz (h _ ⟨fun b o hb=>(oth b fun q=>by rw[q,hnT]at hb;cases hb).trans (x.st b o hb),x.new,x.ff.of_keeps fun b o hb hnf=>⟨o,(oth b (nrec b o hb hnf)).trans hb,rfl⟩,?_⟩ fun b o hb hnf=>⟨o.slots,(oth b (nrec b o hb hnf)).trans hb⟩)
 exact⟨oe,vs,T,_,_,(oth e (Ne.symm hTe)).trans he,hc,ho,hd,h1,hnT,hTe,F1 _ hT (Obj.isFreed_of_fields (Obj.data_mapFields hdT _)),Obj.data_mapFields hdT _,by simp[hsz],hcx⟩
theorem xW{oe:Obj}{vs:Array Value}{head:Value}{hadNext:Bool}(hfr:A.frames=some (env::outer))(hl:s.heap.FunFrames base (env::outer))(hf:env.frame=some L)
  (he:s.heap.get? e=some oe) (hkb:base.StaysIn s.heap) (hen:base.get? e=none) (hd:oe.data=.fields vs) (hsz:1<vs.size) (hcx:∃cx,vs[2]?=some cx/\cp cx)
  (h:∀h',kh cp base (env::outer) e oe.cls oe.dict (rawInt L) h'->s.heap.UpToSlots h'->Q () {s with heap:=h' }) :
  wpAny M A (do let a <- frameOf env;let pl <- entryPlaceOf L hadNext;let b <- EntryCells.newEntry head a .none (rawInt L) .none pl;setField (.ref e) 1 b) Q E s:=by
 have hene:e∉(env::outer).filterMap (·.frame):=fun hm=>by
  obtain⟨_,o,ho,hnf⟩:=hl.mem hm
  rw[he]at ho;injection ho with ho;subst ho;exact hnf vs hd
 refine wpAny_bind (wpAny_frameOf_fun hfr hl hf fun h₁ hs₁=>?_)
 refine wpAny_bind (wpAny_entryPlaceOf fun pl hpl=>?_)
 unfold EntryCells.newEntry newFields
 refine wpAny_bind (wpAny_newObj_type ?_ (hpl.sizeOk5 _ _ _ _ _))
 have he₁:h₁.get? e=some oe:=(hs₁.2.1 e hene).trans he
 have kb₁:base.StaysIn h₁:=fun b o hb=>(hs₁.2.1 b fun hm=>by rw[(hl.mem hm).1]at hb;cases hb).trans (hkb b o hb)
 generalize hT0:({cls:=.type "traceback",dict:=none,data:=.fields ([head,.ref L,.none,rawInt L,.none]++(if pl.isEmpty then List.replicate 6 Value.none else pl)).toArray}:Obj)=To
 have dTo:To.data=.fields ([head,.ref L,.none,rawInt L,.none]++(if pl.isEmpty then List.replicate 6 Value.none else pl)).toArray:=by rw[<- hT0]
 have he₂:=FR (h:=h₁) To he₁
 have hTe:h₁.objs.size≠e:=Nat.ne_of_gt (Gg he₁)
 have keep:∀b o,b≠e->h₁.get? b=some o->((h₁.push To).update e (Obj.mapFields (·.setIfInBounds 1 (Value.ref h₁.objs.size)))).get? b=some o:=fun b o hbe hb=>by
  rw[FW _ _ (Ne.symm hbe)]
  exact FR _ hb
 have nrec:∀b o,s.heap.get? b=some o->(∀vs,o.data≠.fields vs)->b≠e:=fun b o hb hnf q=>by
  rw[q,he]at hb
  injection hb with hb
  subst hb
  exact hnf vs hd
 refine wpAny_setField he₂ hd hsz (h _ ?_ ?_)
 ·have hd₃:=Obj.data_mapFields hd (·.setIfInBounds 1 (Value.ref h₁.objs.size))
  refine⟨fun b o hb=>keep b o (fun q=>by rw[q,hen]at hb;cases hb) (kb₁ b o hb),hen,hl.of_keeps fun b o hb hnf=>?_,?_⟩
  ·obtain⟨sl,hs⟩:=hs₁.2.2 b o hb
   exact⟨_,keep b _ (nrec b o hb hnf) hs,rfl⟩
  ·refine⟨_,_,h₁.objs.size,To,_,F1 _ he₂ (Obj.isFreed_of_fields hd₃),Obj.cls_mapFields _ _,mD _ _,hd₃,by simp[hsz],kb₁.fresh,hTe,?_,dTo,?_,?_⟩
   ·rw[FW _ _ (Ne.symm hTe)]
    refine FX _ ?_
    rw[<- hT0];rfl
   ·first | (simp;done) | (rcases hpl with rfl | ⟨_,_,_,_,_,_,_,rfl⟩<;>simp)
   ·obtain⟨cx,h2,hp⟩:=hcx
    exact⟨cx,by rw[Array.getElem?_setIfInBounds_ne (by decide)];exact h2,hp⟩
 ·intro b o hb hnf
  obtain⟨sl,hs⟩:=hs₁.2.2 b o hb
  exact⟨sl,keep b _ (nrec b o hb hnf) hs⟩
theorem BK{cls:Value}{od:Option Addr}(hfr:A.frames=some (env::outer))(hf:env.frame=some L)(x:kh cp base (env::outer) e cls od .none s.heap)
  (h:∀h',kh cp base (env::outer) e cls od (rawInt L) h'->s.heap.UpToSlots h'->Q () {s with heap:=h' }):wpAny M A (noteFrame (.ref e) env) Q E s:=by
 obtain⟨oe,vs,T,oT,ts,he,hc,ho,hd,h1,hnT,hTe,hT,hdT,h3,hcx⟩:=x.tr
 subst hc ho
 unfold noteFrame
 simp only[hf]
 refine wpAny_bind (wpAny_field he hd h1 ?_)
 rw[if_pos (show(Value.ref T != Value.none)=true from by simp)]
 refine wpAny_bind (wpAny_field hT hdT h3 ?_)
 rw[if_neg (show ¬ ((Value.none==rawInt L)=true) from by simp[rawInt])]
 refine wpAny_bind (wpAny_setField hT hdT (Array.getElem?_eq_some_iff.mp h3).1 ?_)
 have oth:∀b,b≠T->(s.heap.update T (Obj.mapFields (·.setIfInBounds 3 Value.none))).get? b=s.heap.get? b:=fun b hb=>FW _ _ (Ne.symm hb)
 have nrec:∀b o,s.heap.get? b=some o->(∀vs,o.data≠.fields vs)->b≠T:=fun b o hb hnf q=>by rw[q,hT]at hb;injection hb with hb;subst hb;exact hnf ts hdT
 refine xW hfr (x.ff.of_keeps fun b o hb hnf=>⟨o,(oth b (nrec b o hb hnf)).trans hb,rfl⟩) hf ((oth e (Ne.symm hTe)).trans he) (fun b o hb=>(oth b fun q=>by rw[q,hnT]at hb;cases hb).trans (x.st b o hb)) x.new hd (Array.getElem?_eq_some_iff.mp h1).1 hcx fun h' y up=>h h' y fun b o hb hnf=>up b o ((oth b (nrec b o hb hnf)).trans hb) hnf
theorem AC{oe:Obj}{vs:Array Value}(hfr:A.frames=some (env::outer))(hl:s.heap.FunFrames base (env::outer))(hf:env.frame=some L)(he:s.heap.get? e=some oe)(hkb:base.StaysIn s.heap)(hen:base.get? e=none)(hd:oe.data=.fields vs)(h1:vs[1]?=some .none)(hcx:∃cx,vs[2]?=some cx/\cp cx)
  (h:∀h',kh cp base (env::outer) e oe.cls oe.dict (rawInt L) h'->s.heap.UpToSlots h'->Q () {s with heap:=h' }):wpAny M A (noteFrame (.ref e) env) Q E s:=by
 unfold noteFrame
 simp only[hf]
 refine wpAny_bind (wpAny_field he hd h1 ?_)
 rw[if_neg (by decide)]
 exact xW hfr hl hf he hkb hen hd (Array.getElem?_eq_some_iff.mp h1).1 hcx h
theorem kh.drop{cls fl:Value}{od:Option Addr}{h:Heap}(x:kh cp base (env::outer) e cls od fl h):kh cp base outer e cls od fl h:=⟨x.st,x.new,x.ff.2.2,x.tr⟩
theorem A1{cls:Value}{od:Option Addr}(hfr:A.frames=some (env::outer))(hf:env.frame=some L)(x:kh cp base (env::outer) e cls od .none s.heap)
  (h:∀h',kh cp base outer e cls od .none h'->s.heap.UpToSlots h'->Q () {s with heap:=h' }):wpAny M A (leaving env (.ref e)) Q E s:=by
 unfold leaving
 exact wpAny_bind (BK hfr hf x fun h1 y1 u1=>uB y1 fun h2 y2 u2=>h h2 y2.drop (u1.trans u2))
theorem uD{oe:Obj}{vs:Array Value}(hfr:A.frames=some (env::outer))(hl:s.heap.FunFrames base (env::outer))(hf:env.frame=some L)(he:s.heap.get? e=some oe)(hkb:base.StaysIn s.heap)(hen:base.get? e=none)(hd:oe.data=.fields vs)(h1:vs[1]?=some .none)(hcx:∃cx,vs[2]?=some cx/\cp cx)
  (h:∀h',kh cp base outer e oe.cls oe.dict .none h'->s.heap.UpToSlots h'->Q () {s with heap:=h' }):wpAny M A (leaving env (.ref e)) Q E s:=by
 unfold leaving
 exact wpAny_bind (AC hfr hl hf he hkb hen hd h1 hcx fun h1 y1 u1=>uB y1 fun h2 y2 u2=>h h2 y2.drop (u1.trans u2))
end
end PySem
namespace L2
open PySem PySem.Spec PyProof.Rows
structure Fly0(P:Program)(w:World)(outer:List Env)(H:Hp)(s:Shared)(B:Heap)(H':Hp)(s':Shared):Prop where
 st:B.StaysIn s'.heap
 ff:s'.heap.FunFrames B outer
 un:Un (lg outer) [] H H' s.heap s'.heap
 hok:i5 P w H' s'.heap
 cov:∀b o,H' b=some o->∃ob,B.get? b=some ob
 old:∀b o,s.heap.get? b=some o->b∉lg outer->∃o',B.get? b=some o'
 os:s'.os=s.os
 bare:AllBare s'.gens
structure B'(cp:Value->Prop)(P:Program)(w:World)(outer:List Env)(H:Hp)(s:Shared)(B:Heap)(H':Hp)(s':Shared)(ea:Addr)(cls:Value)(od:Option Addr):Prop extends Fly0 P w outer H s B H' s' where
 fl:kh cp B outer ea cls od .none s'.heap
def Cd(cp:Value->Prop)(P:Program)(w:World):jH:=fun outer H s E e s'=>∃ea cls od B H',e=.ref ea/\B' cp P w outer H s B H' s' ea cls od/\H' ea=none/\E cls od H'
abbrev dP(P:Program)(w:World):jH:=Cd (fun v=>v=.none) P w
theorem bJ{cp:Value->Prop}{P:Program}{w:World}{X:Cx}:cn (Cd cp P w) X (fun _ _ _=>False):=fun _ _ _ _ _ _ _ h=>by
 obtain⟨_,_,_,_,_,_,_,_,f⟩:=h
 exact f.elim
theorem wF{P:Program}{w:World}{H:Hp}{B h h':Heap}(ok:i5 P w H h)(cov:∀b o,H b=some o->∃ob,B.get? b=some ob)(k:B.StaysIn h)(k':B.StaysIn h'):i5 P w H h':=fun a o e=>
 (ok a o e).stay (fun b u hb q=>by
  have hb':∃ob,B.get? b=some ob:=by
   rcases hb with rfl | hb
   ·exact cov _ _ e
   ·exact cov _ _ hb
  obtain⟨ob,hB⟩:=hb'
  have:=k b ob hB
  rw[q]at this
  cases this
  exact k' b _ hB) (fun _ q=>q) fun _ _ q=>q
theorem bC.there{P:Program}{w:World}{H:Hp}{h:Heap}{a:Addr}{o:HO}(x:bC P w H h a o):∃ob,h.get? a=some ob:=by
 cases o with
 |lst xs=>obtain⟨_,_,_,_,e⟩:=x;exact⟨_,e⟩
 |tup xs=>obtain⟨_,_,_,ob,e,_⟩:=x;exact⟨_,e⟩
 |dK kvs=>obtain⟨_,_,_,_,o,_,_,e,_⟩:=x;exact⟨_,e⟩
 |dT kvs=>obtain⟨_,_,_,_,o,_,_,e,_⟩:=x;exact⟨_,e⟩
 |set S n=>obtain⟨o,_,_,_,e,_⟩:=x;exact⟨_,e⟩
 |ins C dx fs=>obtain⟨_,_,_,e,_⟩:=x;exact⟨_,e⟩
 |own y=>exact x
 |xd fs=>obtain⟨_,⟨_,_,_,e,_⟩,_⟩:=x;exact⟨_,e⟩
 |rng lo hi=>obtain⟨_,_,_,e⟩:=x;exact⟨_,e⟩
 |frz ob u=>obtain⟨e,_⟩:=x;exact⟨_,e⟩
 |tbl ps=>exact⟨_,show h.get? a=some _ from x⟩
 |met f y=>exact⟨_,show h.get? a=some _ from x⟩
 |ext φ=>obtain⟨_,e,_⟩:=x;exact e
section
variable {P:Program}{w:World}{K:PySem.W.Frag}{mg:Str->Option Value}{base:Heap}{N:List Str}{qual:Str}{scope:Scope}{f:Addr}{cd:Value}{A:Around}{outer:List Env}{s:Shared}{H:Hp}{E E1:XK}{CX:jH}
theorem Fly0.up{cp:Value->Prop}{X:Cx}{pins:List (Addr×Obj)}{σ:St}{H1 H':Hp}{s1 s':Shared}{B h':Heap}{ea:Addr}{cls:Value}{od:Option Addr}(I:aH X pins σ H1 s1)(hex:X.ex=[])(hst:X.stack=X.env::X.outer)(hfr:X.env.frame=some X.env.locals)(hP:X.prog=P)(hw:X.w=w)
  (x:Fly0 P w X.stack H1 s1 B H' s') (fl2:kh cp B X.outer ea cls od .none h') (up:s'.heap.UpToSlots h') :
  B' cp P w X.outer X.H₀ X.s₀ B H' {s' with heap:=h' } ea cls od:=by
 have nex:∀b,b∉X.ex:=fun b=>by rw[hex];simp
 have nfr:∀b o,X.s₀.heap.get? b=some o->b∉X.fs->b∉lg X.stack:=fun b o e hb hm=>by
  rw[hst]at hm
  unfold lg at hm
  rw[List.filterMap_cons,hfr]at hm
  rcases F6.mp hm with z | z
  ·exact absurd (Gg e) (by rw[z];exact Nat.not_lt.mpr I.ok.above)
  ·exact hb z
 have sub:∀b,b∈X.fs->b∈lg X.stack:=fun b hb=>by
  rw[hst]
  unfold lg
  rw[List.filterMap_cons,hfr]
  exact F7 _ hb
 have kB:∀b o,X.s₀.heap.get? b=some o->b∉X.fs->∃o',B.get? b=some o':=fun b o e hb=>by
  obtain⟨o1,e1⟩:=I.base.there b o e (nex b)
  exact x.old b o1 e1 (nfr b o e hb)
 have fr0:∀b∈X.fs,X.H₀ b=none:=I.ok.frf
 have sl:∀b o,X.s₀.heap.get? b=some o->X.H₀ b=none->b∈X.fs->∃sl,h'.get? b=some {o with slots:=sl}:=fun b o e hn hb=>by
  obtain⟨sl1,e1⟩:=I.base.slot b o e hn hb (nex b)
  have n1:=I.base.free b o e hn (nex b)
  obtain⟨sl2,e2⟩:=x.un.slot b _ e1 n1 (sub b hb) (by simp)
  obtain⟨_,o3,e3,nf⟩:=x.ff.mem (sub b hb)
  rw[e2]at e3
  cases e3
  obtain⟨sl3,e4⟩:=up b _ e2 nf
  exact⟨sl3,e4⟩
 refine⟨⟨fl2.st,fl2.ff,⟨fun b o e hn hb _=>?_,fun b o e hn hb _=>sl b o e hn hb,fun b o e hn _=>?_,fun b o e _=>?_,fun b xs q=>x.un.tups b xs (I.base.tups b xs q),fun b o u q=>x.un.frzs b o u (I.base.frzs b o u q),fun b ps q=>?_⟩,wF x.hok x.cov x.st fl2.st,x.cov,kB,x.os.trans I.os,x.bare⟩,fl2⟩
 ·have e1:=I.base.keep b o e hn hb (nex b)
  have n1:=I.base.free b o e hn (nex b)
  have e2:=x.un.keep b o e1 n1 (nfr b o e hb) (by simp)
  obtain⟨o',eB⟩:=kB b o e hb
  have:=x.st b o' eB
  rw[e2]at this
  cases this
  exact fl2.st b _ eB
 ·obtain⟨o1,e1⟩:=I.base.there b o e (nex b)
  exact x.un.free b o1 e1 (I.base.free b o e hn (nex b)) (by simp)
 ·by_cases hb:b∈X.fs
  ·obtain⟨z,ez⟩:=sl b o e (fr0 b hb) hb
   exact⟨_,ez⟩
  ·obtain⟨o',eB⟩:=kB b o e hb
   exact⟨_,fl2.st b _ eB⟩
 ·obtain⟨m1,e1⟩:=I.base.tbls b ps q
  obtain⟨m2,e2⟩:=x.un.tbls b _ e1
  exact⟨m1++m2,by rw[e2,Array.append_assoc]⟩
theorem fX{cp:Value->Prop}(hE:∀c d H',E1 c d H'->E c d H'):cn (Cd cp P w) (fq (Cd cp P w) P w K mg base N qual scope f cd A outer s H E) E1:=by
 intro pins σ H1 s1 e s' I x
 obtain⟨ea,cls,od,B,H',rfl,fly,hn,q⟩:=x
 refine A1 I.ok.frames rfl fly.fl fun h' fl2 up=>?_
 exact⟨ea,cls,od,B,H',rfl,Fly0.up I rfl rfl rfl rfl rfl fly.toFly0 fl2 up,hn,hE _ _ _ q⟩
def wJ(X:Cx)(E:XK):Prop:=∀(pins:List (Addr×Obj)) (σ:St) (H:Hp) (s:Shared) (h':Heap) (e:Addr) (cls:Value) (vs:List Value),aH X pins σ H s->Heap.MadeExcOf s.heap h' e cls vs->E cls none H->X.xe (.ref e) {s with heap:=h' }
theorem j2(hE:∀c d H',E1 c d H'->E c d H'):wJ (fq (dP P w) P w K mg base N qual scope f cd A outer s H E) E1:=by
 intro pins σ H1 s1 h1 e cls vs I x q
 have hin:∀env∈(fq (dP P w) P w K mg base N qual scope f cd A outer s H E).stack,∀b,env.frame=some b->b∈lg (fq (dP P w) P w K mg base N qual scope f cd A outer s H E).stack:=fun env he b hb=>List.mem_filterMap.mpr ⟨env,he,hb⟩
 obtain⟨t0,he0,ht0,htt⟩:=x.there
 have nt:∀b,s1.heap.get? b=none->H1 b=none:=fun b hb=>by
  cases z:H1 b with
  |none=>rfl
  |some o=>
   obtain⟨ob,hob⟩:=(I.hok b o z).there
   rw[hb]at hob
   cases hob
 have hff:=PySem.W.funFrames_hide I.stack hin
 have fly0:Fly0 P w (fq (dP P w) P w K mg base N qual scope f cd A outer s H E).stack H1 s1 (PySem.W.hideAll s1.heap (lg (fq (dP P w) P w K mg base N qual scope f cd A outer s H E).stack)) H1 {s1 with heap:=h1}:=
  ⟨fun b o e=>x.keeps b o (PySem.W.of_hideAll _ e),hff.of_keeps fun b o e _=>⟨o,x.keeps b o e,rfl⟩,Un.kept x.keeps,I.hok.kept x.keeps,fun b o z=>by
   obtain⟨ob,hob⟩:=(I.hok b o z).there
   exact⟨ob,PySem.W.hideAll_get _ hob fun hm=>by rw[I.stkFree b hm]at z;cases z⟩,fun b o e hm=>⟨o,PySem.W.hideAll_get _ e hm⟩,rfl,I.bare⟩
 have newB:(PySem.W.hideAll s1.heap (lg (fq (dP P w) P w K mg base N qual scope f cd A outer s H E).stack)).get? e=none:=by
  cases z:(PySem.W.hideAll s1.heap (lg (fq (dP P w) P w K mg base N qual scope f cd A outer s H E).stack)).get? e with
  |none=>rfl
  |some o=>have:=PySem.W.of_hideAll _ z;rw[x.new]at this;cases this
 refine uD (cp:=fun v=>v=.none) (s:={s1 with heap:=h1}) I.ok.frames fly0.ff rfl he0 fly0.st newB rfl rfl ⟨_,rfl,rfl⟩ fun h' fl2 up=>?_
 exact⟨e,cls,none,_,H1,rfl,Fly0.up I rfl rfl rfl rfl rfl fly0 fl2 up,nt e x.new,hE _ _ _ q⟩
end
structure yl(K:PySem.W.Frag)(C:Addr)(bmB:List Value)(newId:String):Prop where
 exc:PySem.W.excIn K C bmB newId=true
theorem yl.obj{K:PySem.W.Frag}{C:Addr}{bmB:List Value}{newId:String}{h:Heap}(c:yl K C bmB newId)(X:K.In h):∃bm N nm q bs hdct sn sub ab col dd k0 k1 k2 k3 k5 mN,
  h.get? C=some (excClassObj nm q C N bs bm hdct sn sub ab col dd k0 k1 k2 k3 k5 newId)/\h.Ns N mN/\mN "__init__"=none/\OwnTail h bmB bm/\∃dd' cd sl,K.lookup C=some ⟨.type "type",dd',.cls cd,sl⟩/\cd.mro=.ref C::bm:=by
 have q:=c.exc
 unfold PySem.W.excIn at q
 cases hl:K.lookup C with
 |none=>rw[hl]at q;cases q
 |some ob=>
  rw[hl]at q
  split at q
  ·rename_i dd cd sl e
   cases e
   split at q
   ·rename_i C' bm k0 k1 k2 k3 n k5 hm hs
    simp only[Bool.and_eq_true,beq_iff_eq,Bool.not_eq_true']at q
    obtain⟨⟨⟨⟨⟨rfl,rfl⟩,hdel⟩,ht⟩,hok⟩,hni⟩:=q
    have ho:=X _ _ hl
    have hsl:sl=#[k0,k1,k2,k3,some (.builtin n),k5]:=Array.toList_inj.mp hs
    subst hsl
    obtain⟨nm,bs,mro,ns,qn,hd,sn,sub,ab,col,del⟩:=cd
    dsimp only at hm hdel hok hni ho
    subst hm hdel
    exact⟨bm,ns,nm,qn,bs,hd,sn,sub,ab,col,dd,k0,k1,k2,k3,k5,_,ho,.of_isNs (PySem.W.isNs_of_in X hok),PySem.W.nsMap_none_of_in X hok hni,PySem.W.tail_of_in X ht,dd,_,_,rfl,rfl⟩
   ·cases q
  ·cases q
section
variable {X:Cx}{x:Str}{np cpos pos:Pos}{e₀:Expr}{bh:List Expr}{t:TA}{C:Addr}{B Bn newId nid initId inN:String}{bm bmN:List Value}{E:XK}
def tu(C:Addr)(E:XK)(t:TA):TS:=fun _ σ H=>t σ H fun vs H1=>vs.length<=sizeLine/\E (.ref C) none H1
theorem xr(c:yl X.K C bm newId)(Fn:ExcBaseFacts Bn newId inN bmN)(hBn:bm.contains (.type Bn)=true)(FB:ExcBaseFacts B nid initId bm)(hc:X.calm=true)(hg:Gl X x)(hm:X.mg x=some (.ref C))(hx:wJ X E)(ha:PA X (e₀::bh) t)
  (hd:(x==("__debug__":Str))=false:=by decide +kernel)
  (he:starEach (e₀::bh) X.env=(false,eval e₀ X.env)::starEach bh X.env:=by rfl) (hpl:(backTo cpos (starEach bh X.env)).any (·.1)=false:=by rfl) :
  PS X (.Raise (some (.Call (.Name x np) (e₀::bh) [] cpos)) none pos) (tu C E t):=by
 intro pins s σ H D I h
 obtain⟨tl,N,nm,q,bs,hdct,sn,sub,ab,col,dd,k0,k1,k2,k3,k5,mN,hC,hN,hni,T,_⟩:=c.obj I.mod.kin
 refine wpAny_Raise_call_subU (C:=C) (nm:=nm) (q:=q) (N:=N) (bs:=bs) (bm:=tl) (hdct:=hdct) (sn:=sn) (sub:=sub) (ab:=ab) (col:=col) (dd:=dd) (k0:=k0) (k1:=k1) (k2:=k2) (k3:=k3) (k5:=k5)
  Fn hBn FB (mN:=mN) (T.hasType FB.hasBase) (I.ok.hd hc) (by rw[he];show(false||(backTo cpos (starEach bh X.env)).any (·.1))=false;rw[hpl];rfl) hni (iO I hg hm ⟨rfl,?_⟩ hd)
 rw[he]
 have ha':=ha cpos pins s σ H _ I h
 rw[he]at ha'
 exact Calls.evalArgs_plain (wpAny_mono ha' (fun us s₂ ⟨vs,H1,I1,r1,z,q1⟩=>⟨rfl,by rw[<- r1.length];exact z,I1.bk _ _ hC,hN.keeps I1.bk,T.keeps I1.bk,fun h' e hx'=>hx pins σ H1 s₂ h' e _ _ I1 hx' q1⟩) fun _ _ y=>y)
end
abbrev TX:=St->Hp->VK->XK->Prop
section
variable {X:Cx}{CX:jH}{k:Nat}{ps:List Str}{sp:Sp}{x:Str}{p pos:Pos}{e:Expr}{es:List Expr}{t:TA}
end
end L2
namespace PySem
open Sem (wp)
section
variable {M:Model}{A:Around}{E:Value->Shared->Prop}
variable {nm q nm' q':Str}{C N D N':Addr}{bs bm bs' bm':List Value}{hdct hdct':Bool}{sn sn':List Str}{sub sub':List Value}{ab ab':Bool}{col col':Option Bool}{dd dd':Option Addr}{k0 k1 k2 k3 k5 k0' k1' k2' k3' k5':Option Value}{newId newId':String}
end
end PySem
namespace L2
open PySem PySem.Spec PyProof.Rows
section
variable {X:Cx}{pins:List (Addr×Obj)}{σ:St}{H:Hp}{s:Shared}
end
def B2(K:PySem.W.Frag)(C D:Addr):Prop:=∃dd cd sl,K.lookup C=some ⟨.type "type",dd,.cls cd,sl⟩/\cd.mro.contains (.ref D)=true
section
variable {X:Cx}{P:Program}{w:World}{e tg:Expr}{tx:TX}{g:TG}{i:Nat}{n x:Str}{D:Addr}{bmD:List Value}{nD:String}{b₀:Stmt}{suite:List Stmt}{apos pos hpos np:Pos}{ts:Addr->TS}
end
section
variable {X:Cx}{pins:List (Addr×Obj)}{σ:St}{H:Hp}{s:Shared}
theorem aH.moved{ch:List Addr}{h':Heap}{tk:Nat}(I:aH X pins σ H s)(hf:∀b∈ch,ma X pins H b)(k:∀b o,b∉ch->s.heap.get? b=some o->h'.get? b=some o):aH X pins σ H {s with heap:=h',toks:=tk}:=by
 have nH:∀b o,H b=some o->b∉ch:=fun b o e z=>by rw[(hf b z).1]at e;cases e
 refine I.call' (s':={s with heap:=h',toks:=tk}) (ch:=ch) rfl ⟨fun b o e _ _ hc=>k b o hc e,fun b o e _ _ hc=>⟨o.slots,k b o hc e⟩,fun b o e n hc=>n,fun b o e hc=>⟨o,k b o hc e⟩,fun b xs q=>q,fun b o y q=>q,fun b qs q=>⟨#[],by rw[q];simp⟩⟩
  (fun b o e=>(I.hok b o e).stay (fun c u hc q=>k c u (by
   rcases hc with rfl | hc
   ·exact nH _ _ e
   ·exact nH _ _ hc) q) (fun _ q=>q) fun _ _ q=>q) I.bare fun b hb=>?_
 obtain⟨f0,f1,f2,f3,f4,f5⟩:=hf b hb
 exact⟨f3,f1,f4,f5⟩
theorem aH.movedT{ch:List Addr}{h':Heap}{tk:Nat}{T:Addr}{ob:HO}(I:aH X pins σ H s)(hf:∀b∈ch,ma X pins H b)(k:∀b o,b∉ch->s.heap.get? b=some o->h'.get? b=some o)(hT:s.heap.objs.size<=T)(new:bC X.prog X.w (ap H T ob) h' T ob) :
  aH X pins σ (ap H T ob) {s with heap:=h',toks:=tk}:=by
 have nH:∀b o,H b=some o->b∉ch:=fun b o e z=>by rw[(hf b z).1]at e;cases e
 have hn:H T=none:=I.hok.fresh hT
 have nT:∀b o,s.heap.get? b=some o->b≠T:=fun b o e z=>by rw[z]at e;exact absurd (Gg e) (Nat.not_lt.mpr hT)
 refine I.call' (s':={s with heap:=h',toks:=tk}) (ch:=ch) rfl ⟨fun b o e _ _ hc=>k b o hc e,fun b o e _ _ hc=>⟨o.slots,k b o hc e⟩,fun b o e n hc=>by rw[aj (nT b o e)];exact n,fun b o e hc=>⟨o,k b o hc e⟩,fun b xs q=>by rw[aj (aG q hn)];exact q,fun b o y q=>by rw[aj (aG q hn)];exact q,fun b qs q=>⟨#[],by rw[aj (aG q hn),q];simp⟩⟩
  (fun b o e=>?_) I.bare fun b hb=>?_
 ·by_cases hb:b=T
  ·subst hb
   rw[ac]at e
   cases e
   exact new
  ·rw[aj hb]at e
   exact(I.hok b o e).stay (fun c u hc q=>k c u (by
    rcases hc with rfl | hc
    ·exact nH _ _ e
    ·exact nH _ _ hc) q) (fun c q=>by rw[aj (aG q hn)];exact q) fun c xs q=>by rw[aj (aG q hn)];exact q
 ·obtain⟨f0,f1,f2,f3,f4,f5⟩:=hf b hb
  exact⟨f3,f1,f4,f5⟩
end
section
variable {X:Cx}{elts:List Expr}{x1:Nat}{tp:Pos}
end
end L2
namespace PySem.W
open PySem PySem.Spec PySem.Calls PyProof.Rows
section
variable {prog:Program}{w:World}{A:Around}{E:Value->Shared->Prop}{s:Shared}{K:Frag}{x D:Addr}{ox:Obj}{odo:Option Obj}{name:Str}
structure XTy(K:Frag)(D:Addr):Prop where
 ga:findIn K (.ref D) "__getattribute__"=some (some (.builtin "BaseException.__getattribute__"))
 gh:findIn K (.ref D) "__getattr__"=some none
 mb:mroIn K D (.type "BaseException")=some true
 mo:mroIn K D (.type "object")=some true
 ha:findIn K (.ref D) "__class__"=some (some (.builtin "object.__class__"))
 hn:specialIn K (.builtin "object.__class__") "__get__"=some (some (.builtin "getset_descriptor.__get__"))
 tk:takesIn K (.builtin "object.__class__")=some true
 cl:∃dd cd sl,K.lookup D=some ⟨.type "type",dd,.cls cd,sl⟩
end
end PySem.W
namespace L2
open PySem PySem.Spec PyProof.Rows
section
variable {X:Cx}
end
structure XR(K:PySem.W.Frag)(C:Addr):Prop where
 ex:∃(bm bmN:List Value) (newId Bn inN B nid initId:String),yl K C bm newId/\ExcBaseFacts Bn newId inN bmN/\bm.contains (.type Bn)=true/\ExcBaseFacts B nid initId bm
theorem iS{X:Cx}{x:Str}{np cpos pos:Pos}{e₀:Expr}{bh:List Expr}{t:TA}{C:Addr}{E:XK}(c:XR X.K C)(hc:X.calm=true)(hg:Gl X x)(hm:X.mg x=some (.ref C))(hx:wJ X E)(ha:PA X (e₀::bh) t)
  (hd:(x==("__debug__":Str))=false:=by decide +kernel)
  (he:starEach (e₀::bh) X.env=(false,eval e₀ X.env)::starEach bh X.env:=by rfl) (hpl:(backTo cpos (starEach bh X.env)).any (·.1)=false:=by rfl) :
  PS X (.Raise (some (.Call (.Name x np) (e₀::bh) [] cpos)) none pos) (tu C E t):=by
 obtain⟨bm,bmN,newId,Bn,inN,B,nid,initId,c1,c2,c3,c4⟩:=c.ex
 exact xr c1 c2 c3 c4 hc hg hm hx ha hd he hpl
section
variable {P:Program}{w:World}{K:PySem.W.Frag}{mg:Str->Option Value}{base:Heap}
theorem d9.okX{x qual:Str}{st:Stmt}{f:Addr}{fd:FuncData}{N ps:List Str}{k:Nat}{sp:Sp}(F:d9 K x qual st f fd)(S:aI N ps (ao st))(len:∀vs H Q E,sp vs H Q E->vs.length=ps.length)
  (hbody:∀(cdv:Value) (A:Around) (outer:List Env) (s:Shared) (H:Hp) (vs:List V) (Q:VK) (E:XK),cI k (A.deeper (envOfC qual (ao st) s.heap.objs.size f cdv))->sp vs H Q E ->
   ∃t,qV (fq (dP P w) P w K mg base N qual (ao st) f cdv A outer s H E) (bv st) t/\t {nx:=fun _ H'=>Q .non H',rt:=Q} (start N vs) H):bb P w K mg base (dP P w) (k+1) f fd ps sp:=by
 obtain⟨oc,od,kV,doc,pm,an,cdv,ct,osl,rfl,lk,hcd⟩:=F.ex
 exact Aa lk hcd S len fun A outer s H vs Q E hr hsp=>hbody cdv A outer s H vs Q E hr hsp
theorem bb.lift{CX:jH}{k:Nat}{f:Addr}{fd:FuncData}{ps:List Str}{sp:Sp}(F:bb P w K mg base bL k f fd ps sp):bb P w K mg base CX k f fd ps sp:=
 ⟨F.len,fun A outer s H args us vs Q E hr he hb hv hs=>codeAny_mono (F.run A outer s H args us vs Q E hr he hb hv hs) fun r s' hq=>by
  cases r with
  |error e=>exact False.elim hq
  |ok fl=>cases fl<;>exact hq⟩
theorem fP.lift{CX:jH}{k:Nat}{x:Str}{ps:List Str}{sp:Sp}(c:fP P w K mg base bL k x ps sp):fP P w K mg base CX k x ps sp:=by
 obtain⟨f,fd,F,r⟩:=c.ex
 exact⟨f,fd,F.lift,r⟩
end
section
variable {K:PySem.W.Frag}{g:TG}{ti:TT}{te:TE}{σ:St}{H:Hp}{Q:List V->Hp->Prop}
end
end L2
namespace QL
open PySem
end QL
namespace L2
open PySem PySem.Spec PyProof.Rows
def Ds(K:PySem.W.Frag)(a:Addr):It:=
 ⟨fun i H=>∃xs x,aT K H a xs/\xs[i]?=some x,fun i H v H'=>∃T x,v=.ref T/\H T=none/\H'=ap H T (.tup [.int (i:Int),x])/\∀xs,aT K H a xs->xs[i]?=some x,fun i H=>∃xs,aT K H a xs/\xs.length<=i⟩
theorem wB{P:Program}{w:World}{K:PySem.W.Frag}{elts:List Expr}{x1:Nat}{tp:Pos}{e it l:Addr}(hei:e≠it) :
  pP P w K (.Tuple elts x1 tp) (Ds K l) [e,it] e (fun i h=>(∃old,IsEnum h e it i old)/\h.IsListIter it l i) where
 mem:=by simp
 obj:=fun i h st b hb=>by
  obtain⟨⟨old,he⟩,⟨o1,e1,c1,d1⟩⟩:=st
  simp only[F6,List.not_mem_nil,or_false]at hb
  rcases hb with rfl | rfl
  ·exact⟨_,he,fun v q=>by cases q⟩
  ·exact⟨_,e1,fun v q=>by rw[d1]at q;cases q⟩
 keep:=fun i h h' st hk=>by
  obtain⟨⟨old,he⟩,h1⟩:=st
  exact⟨⟨old,hk e (by simp) _ he⟩,h1.at fun o e'=>hk it (by simp) o e'⟩
 item:=by
  intro X hP hw hK hc i pins s σ H E I hf st hg
  subst hP hw hK
  obtain⟨xs,x,hq,hx⟩:=hg
  obtain⟨its,rv,p,hz⟩:=I.list hq
  obtain⟨u,hu,ru⟩:=rv.get hx
  obtain⟨⟨old,he⟩,h1⟩:=st
  obtain⟨o1,e1,_⟩:=id h1
  refine wpAny_pyNext_enum_item he h1 p.isList (x:=u) (by simpa using hu) hei fun h' a1 a2 a3 a4 hk=>?_
  refine⟨_,rfl,wpAny_letOwnedTupleGo_enum a1 fun h2 he2 hs2=>?_⟩
  have hfree:H s.heap.objs.size=none:=I.hok.fresh (Gc _)
  have lt:∀{c o},s.heap.get? c=some o->s.heap.objs.size≠c:=fun e=>Nat.ne_of_gt (Gg e)
  have kk:∀c o,c∉[e,it]->s.heap.get? c=some o->h2.get? c=some o:=fun c o hc q=>
   hs2.extBut _ _ (fun z=>hc (by simp[z])) (hk c o (fun z=>hc (by simp[z])) (fun z=>hc (by simp[z])) q)
  have hT:h2.get? s.heap.objs.size=some {cls:=.type "tuple",data:=.seq #[.int i s.toks,u]}:=hs2.extBut _ _ (lt he) a3
  refine⟨.ref s.heap.objs.size,ap H s.heap.objs.size (.tup [.int i,x]),I.movedT (tk:=s.toks+1) hf kk (Gc _) ⟨show 2<=sizeLine from by decide +kernel,[.int i s.toks,u],.cons ⟨_,rfl⟩ (.cons ru .nil),_,hT,rfl,_,rfl⟩,rfl,
   ⟨_,x,rfl,hfree,rfl,fun zs hzs=>by rw[I.list_inj hzs hq];exact hx⟩,⟨⟨u,by simpa using he2⟩,a2.extBut hs2.extBut (Ne.symm hei)⟩,fun b hb=>?_⟩
  have hlt:b≠s.heap.objs.size:=by
   simp only[F6,List.not_mem_nil,or_false]at hb
   rcases hb with rfl | rfl
   ·exact(lt he).symm
   ·exact(lt e1).symm
  rw[aj hlt]
  exact(hf b hb).1
 done:=by
  intro X hP hw hK hc i pins s σ H E I hf st hg
  subst hP hw hK
  obtain⟨xs,hq,hx⟩:=hg
  obtain⟨its,rv,p,hz⟩:=I.list hq
  obtain⟨⟨old,he⟩,h1⟩:=st
  have l1':=rv.length
  refine wpAny_pyNext_enum_end (I.ok.hd hc) he h1 p.isList (by simp;omega) fun h' hk=>⟨rfl,I.moved (tk:=s.toks) hf fun c o hc e=>hk c o (fun q=>hc (by simp[q])) e⟩
 self:=fun _ _ _ _ _ st h=>let ⟨⟨_,he⟩,_⟩:=st;wpAny_pyIter_enum he h
section
variable {X:Cx}{elts:List Expr}{x1:Nat}{tp:Pos}
def Af(K:PySem.W.Frag)(ta:TA):TI:=fun σ H R=>ta σ H fun vs H1=>∃a xs,vs=[.ref a]/\aT K H1 a xs/\R (Ds K a) H1
theorem mj{a:Expr}{ta:TA}{p pos:Pos}(hg:Gl X "enumerate")(hm:X.mg "enumerate"=none)(ha:PA X [a] ta)(hs:starEach [a] X.env=[(false,eval a X.env)]:=by rfl):PI X (.Tuple elts x1 tp) (.Call (.Name "enumerate" p) [a] [] pos) (Af X.K ta):=by
 intro pins s σ H R I h
 refine Call_ (dG I hg hm boot_enumerate (PyProof.Rows.callWith_type1 (bx (ha pos pins s σ H _ I h) fun us s1 ⟨vs,H1,I1,r1,q1⟩=>?_) (by rw[hs];rfl) (by rfl)))
 obtain⟨l,xs,rfl,hq,q⟩:=q1
 obtain⟨u,rfl,ru⟩:=r1.one
 cases ru
 obtain⟨its,rv,p1,_⟩:=I1.list hq
 refine call_enumerate_list p1.isList fun h' z1 z2 z3 hk=>?_
 have I2:aH X pins σ H1 {s1 with heap:=h' }:=I1.kept (t':=s1.toks) hk
 refine wpAny_pyIter_enum z1 ?_
 refine⟨s1.heap.objs.size+1,[s1.heap.objs.size+1,s1.heap.objs.size],_,_,H1,rfl,I2,wB (l:=l) (Nat.ne_of_gt (Gp _)),⟨⟨_,z1⟩,z2⟩,fun b hb=>?_,q⟩
 have hb':s1.heap.objs.size<=b:=by
  simp only[F6,List.not_mem_nil,or_false]at hb
  rcases hb with e | e<;>(rw[e];first | exact Gc _ | exact Nat.le_add_right _ _)
 exact I1.fpOk hb' (I1.hok.fresh hb')
end
section
variable {K:PySem.W.Frag}{g:TG}{tb:TS}{D:ip}{σ:St}{H:Hp}
theorem iM{a:Addr}{xs:List V}(Pv:Nat->St->Hp->Prop)(h0:Pv 0 σ H)(hl:∀i σ H,i<=xs.length->Pv i σ H->aT K H a xs)
  (hs:∀(i:Nat) x σ H T,xs[i]?=some x->Pv i σ H->H T=none->g (.ref T) σ (ap H T (.tup [.int (i:Int),x])) fun σ2 H2=>tb {D with nx:=Pv (i+1),ct:=Pv (i+1),bk:=D.nx} σ2 H2) (hd:∀σ H,Pv xs.length σ H->D.nx σ H):uq (Ds K a) g tb D σ H:=by
 refine⟨fun i m σ H=>m=xs.length-i/\i<=xs.length/\Pv i σ H,⟨xs.length,by simp,Gd _,h0⟩,?_⟩
 rintro i m σ H ⟨rfl,hi,p⟩
 have q:=hl i σ H hi p
 by_cases hlt:i<xs.length
 ·refine .inr ⟨⟨xs,xs[i],q,by simp[hlt]⟩,Pv (i+1),fun σ' H' p'=>⟨xs.length-(i+1),by omega,rfl,hlt,p'⟩,fun x H' y=>?_⟩
  obtain⟨T,x,rfl,hT,rfl,y⟩:=y
  exact hs i x σ _ T (y xs q) p hT
 ·have e:i=xs.length:=by omega
  subst e
  exact .inl ⟨⟨xs,q,Gc _⟩,hd σ H p⟩
end
end L2
namespace PySem
open Sem (wp)
section
variable {M:Model}{A:Around}{E:Value->Shared->Prop}{env:Env}
variable {nm q:Str}{C N:Addr}{bs bm:List Value}{hdct:Bool}{sn:List Str}{sub:List Value}{ab:Bool}{col:Option Bool}{dd:Option Addr}{k0 k1 k2 k3 k5:Option Value}{newId:String}
theorem ol{s:Shared}{x:Sem Value}{Q:Flow->Shared->Prop}(hbase:bm.contains (.type "BaseException")=true)(hh:A.handled=none)
  (h:wpAny M A x (fun v s₁=>∃e oe vs,v=.ref e/\s₁.heap.get? C=some (excClassObj nm q C N bs bm hdct sn sub ab col dd k0 k1 k2 k3 k5 newId)/\s₁.heap.get? e=some oe/\oe.cls=.ref C/\oe.data=.fields vs/\vs[1]?=some .none/\E (.ref e) s₁) E s) :
  wpAny M A (raiseStmt env (some x) none) Q E s:=by
 have hcB:(Value.ref C::bm).contains (.type "BaseException")=true:=by rw[List.contains_cons,hbase,Bool.or_true]
 unfold raiseStmt
 refine wpAny_bind (wpAny_mono h (fun v s₁ h₁=>?_) fun _ _ x=>x)
 obtain⟨e,⟨oc,od,dt,sl⟩,vs,rfl,hC,he,hc,hd,hv,hE⟩:=h₁
 dsimp only at hc hd
 subst hc hd
 obtain⟨hp,g,d,tk,os⟩:=s₁
 repeat (first | with_reducible refine wpAny_loadPart_at he ?_ | with_reducible refine wpAny_loadPart_at hC ?_ | (with_reducible refine wpAny_isSubtype_exc hC ?_;rw[hcB]) | wp_step)
 rw[hv]
 refine wpAny_pure ?_
 rw[if_neg (by decide)]
 exact wpAny_pure (wpAny_raiseNew_none hh hE)
end
section
variable {prog:Program}{w:World}{A:Around}{E:Value->Shared->Prop}{h:Heap}{g:Array GenState}{d:Drawn}{t:Nat}{os:OsState}
variable {nm q:Str}{C N:Addr}{bs bm bmB:List Value}{hdct:Bool}{sn:List Str}{sub:List Value}{ab:Bool}{col:Option Bool}{dd:Option Addr}{k0 k1 k2 k3 k5:Option Value}{B Bn newId nid initId inN:String}{bmN:List Value}{K:PySem.W.Frag}
theorem iZ(Fn:ExcBaseFacts Bn newId inN bmN)(hBn:bmB.contains (.type Bn)=true)(F:ExcBaseFacts B nid initId bmB)(T:OwnTail h bmB bm)(X:K.In h){bh:List Value}{fI:Addr}{Q:Fin->Shared->Prop}
  (hC:h.get? C=some (excClassObj nm q C N bs bm hdct sn sub ab col dd k0 k1 k2 k3 k5 newId)) (hi:PySem.W.findIn K (.ref C) "__init__"=some (some (.ref fI))) (hf:PySem.W.typeIn K (.ref fI)=some (.type "function"))
  (hq:∀h' e,Heap.MadeExcOf h h' e (.ref C) bh ->
   wpAny (model prog w) A (call (.ref fI) (.ref e::bh)) (fun r s'=>r=.none/\Q (.done (.ret (.ref e))) s') E ⟨h',g,d,t,os⟩) (hrest:bh.length<=sizeLine) :
  wpAny (model prog w) A (Builtin.«type.__call__» ⟨.ref C::bh,[]⟩) Q E ⟨h,g,d,t,os⟩:=by
 repeat (first | with_reducible refine wpAny_loadPart_at hC ?_ | with_reducible refine wpAny_madeBy_exc hC ?_ | wp_step)
 refine codeAny_call_builtin_code (Code.quiet_builtin _ Fn.quiet) (wpAny_check_new_subU Fn hBn T hC ?_)
 refine codeAny_exc_new_subU Fn hBn F T hC ?_ hrest
 show wpAny _ _ _ _ _ _
 have hC₁:=FR {cls:=.ref C,data:=.fields #[.ref h.objs.size,.none,.none,.none,.bool false,.none]}
  (FR {cls:=.type "tuple",data:=.seq bh.toArray} hC)
 have hget:((h.push {cls:=.type "tuple",data:=.seq bh.toArray}).push
   {cls:=.ref C,data:=.fields #[.ref h.objs.size,.none,.none,.none,.bool false,.none]}).get? (h.objs.size+1)=some
   {cls:=.ref C,data:=.fields #[.ref h.objs.size,.none,.none,.none,.bool false,.none]}:=by heap_get
 have hcC:(Value.ref C::bm).contains (.ref C)=true:=by simp
 have X₁:K.In ((h.push {cls:=.type "tuple",data:=.seq bh.toArray}).push {cls:=.ref C,data:=.fields #[.ref h.objs.size,.none,.none,.none,.bool false,.none]}):=
  X.keeps fun b o e=>FR _ (FR _ e)
 unfold isInstance
 repeat (first | with_reducible refine wpAny_loadPart_at hget ?_ | (with_reducible refine wpAny_isSubtype_exc hC₁ ?_;rw[hcC]) | wp_step)
 show wpAny _ _ (typeLookup (.ref C) _) _ _ _
 refine(PySem.W.looks_findIn X₁ hi).at ?_
 refine wpAny_holding (wpAny_bind ((PySem.W.bind_fn X₁ _ hf).at ?_))
 refine wpAny_bind (wpAny_mono (hq _ (h.objs.size+1) ⟨fun b o hb=>FR _ (FR _ hb),Heap.get?_none_of_le (Nat.le_succ _),h.objs.size,hget,Heap.get?_none_of_le (Gc _),?_⟩) (fun r s' hr=>?_) fun _ _ x=>x)
 ·exact FR _ (Heap.get?_push_at rfl rfl)
 ·obtain⟨rfl,hQ⟩:=hr
  wp_walk
  exact hQ
theorem nU(Fn:ExcBaseFacts Bn newId inN bmN)(hBn:bmB.contains (.type Bn)=true)(F:ExcBaseFacts B nid initId bmB)(T:OwnTail h bmB bm)(X:K.In h){bh:List Value}{fI:Addr}{Q:Value->Shared->Prop}
  (hC:h.get? C=some (excClassObj nm q C N bs bm hdct sn sub ab col dd k0 k1 k2 k3 k5 newId)) (hi:PySem.W.findIn K (.ref C) "__init__"=some (some (.ref fI))) (hf:PySem.W.typeIn K (.ref fI)=some (.type "function"))
  (hq:∀h' e,Heap.MadeExcOf h h' e (.ref C) bh ->
   wpAny (model prog w) (A.under (.builtin "type.__call__" ⟨.ref C::bh,[]⟩)) (call (.ref fI) (.ref e::bh)) (fun r s'=>r=.none/\Q (.ref e) s') E ⟨h',g,d,t,os⟩) (hrest:bh.length<=sizeLine) :
  wpAny (model prog w) A (call (.ref C) bh) Q E ⟨h,g,d,t,os⟩:=by
 have f1:=tc_lookup
 have f2:=tc_bind (.ref C)
 have hT:(⟨h,g,d,t,os⟩:Shared).TypeIs (.ref C) "type":=⟨_,hC,rfl⟩
 refine wpAny_call (codeAny_of_tree ?_)
 show wpAny _ _ (callAny (.ref C) _) _ _ _
 repeat (any_goals (first | assumption | with_reducible refine wpAny_loadPart_at hC ?_ | wp_step))
 refine⟨rfl,?_⟩
 refine codeAny_call_builtin_at (Code.quiet_builtin _ (by decide +kernel)) entry_typeCall (wpAny_check_type_call_sub hC (iZ (hrest:=hrest) Fn hBn F T X hC hi hf fun h' e hm=>?_))
 exact hq h' e hm
end
section
variable {prog:Program}{w:World}{A:Around}{E:Value->Shared->Prop}{s:Shared}{env:Env}
variable {nm q:Str}{C N:Addr}{bs bm bmB:List Value}{hdct:Bool}{sn:List Str}{sub:List Value}{ab:Bool}{col:Option Bool}{dd:Option Addr}{k0 k1 k2 k3 k5:Option Value}{B Bn newId nid initId inN:String}{bmN:List Value}{K:PySem.W.Frag}
theorem kR(Fn:ExcBaseFacts Bn newId inN bmN)(hBn:bmB.contains (.type Bn)=true)(F:ExcBaseFacts B nid initId bmB){x:Str}{np cpos pos:Pos}{args:List Expr}{fI:Addr}{Q:Flow->Shared->Prop}
  (hbase:bm.contains (.type "BaseException")=true) (hh:A.handled=none) (hplain:(backTo cpos (starEach args env)).any (·.1)=false) (hi:PySem.W.findIn K (.ref C) "__init__"=some (some (.ref fI))) (hf:PySem.W.typeIn K (.ref fI)=some (.type "function"))
  (h:wpAny (model prog w) A (eval (.Name x np) env) (fun f s₁=>f=.ref C/\wpAny (model prog w) A (evalArgs (.ref C) true (backTo cpos (starEach args env)) [])
   (fun a s₂=>a.kw=[]/\a.pos.length<=sizeLine/\s₂.heap.get? C=some (excClassObj nm q C N bs bm hdct sn sub ab col dd k0 k1 k2 k3 k5 newId)/\K.In s₂.heap/\OwnTail s₂.heap bmB bm /\
    ∀h' e,Heap.MadeExcOf s₂.heap h' e (.ref C) a.pos->wpAny (model prog w) (A.under (.builtin "type.__call__" ⟨.ref C::a.pos,[]⟩)) (call (.ref fI) (.ref e::a.pos))
     (fun r s'=>r=.none/\∃oe vs,s'.heap.get? C=some (excClassObj nm q C N bs bm hdct sn sub ab col dd k0 k1 k2 k3 k5 newId)/\s'.heap.get? e=some oe/\oe.cls=.ref C/\oe.data=.fields vs/\vs[1]?=some .none/\E (.ref e) s') E {s₂ with heap:=h' }) E s₁) E s) :
  wpAny (model prog w) A (exec (.Raise (some (.Call (.Name x np) args [] cpos)) none pos) env) Q E s:=by
 rw[arm_exec_Raise]
 simp only[evalOpt,Option.map]
 refine wpAny_bind (wpAny_standAt (ol (C:=C) (nm:=nm) (q:=q) (N:=N) (bs:=bs) (bm:=bm) (hdct:=hdct) (sn:=sn) (sub:=sub) (ab:=ab) (col:=col) (dd:=dd) (k0:=k0) (k1:=k1) (k2:=k2) (k3:=k3) (k5:=k5) (newId:=newId) hbase hh (wpAny_bind (wpAny_mono (wpAny_Call_ofName (wpAny_mono h (fun f s₁ h₁=>?_) fun _ _ x=>x)) (fun v s₃ h₃=>wpAny_bind (wpAny_standAt (wpAny_pure h₃))) fun _ _ x=>x))))
 obtain⟨rfl,h₁⟩:=h₁
 unfold callWith
 refine wpAny_bind (wpAny_holding (wpAny_mono h₁ (fun a s₂ h₂=>wpAny_bind (wpAny_standAt ?_)) fun _ _ x=>x))
 obtain⟨apos,akw⟩:=a
 obtain⟨hkw,hlen,hC,hX,T,h₂⟩:=h₂
 obtain rfl:akw=[]:=hkw
 obtain⟨hp,g,d,tk,os⟩:=s₂
 simp only[hplain]
 refine wpAny_bind (wpAny_keeperOf_exc hC ?_)
 refine wpAny_bind (nU (hrest:=hlen) Fn hBn F T hX hC hi hf fun h' e hm=>wpAny_mono (h₂ h' e hm) (fun r s' hr=>⟨hr.1,wpAny_bind (wpAny_holding (wpAny_point (wpAny_pure ?_)))⟩) fun _ _ x=>x)
 obtain⟨_,oe,vs,a1,a2,a3,a4,a5,a6⟩:=hr
 exact⟨e,oe,vs,rfl,a1,a2,a3,a4,a5,a6⟩
end
end PySem
namespace PySem.W
open PySem PySem.Spec PySem.Calls PyProof.Rows
open Builtin Builtin.ObjectAttr
def excOut(K:Frag)(C:Addr)(bmB:List Value)(newId:String):Bool:=match K.lookup C with
 |some ⟨.type "type",_,.cls cd,sl⟩=>(match cd.mro,sl.toList with
  | .ref C'::bm,[_,_,_,_,some (.builtin n),_]=>C'==C&&n==newId && !cd.hasDel&&tailIn K bmB bm&&nsOkIn K cd.ns
  |_,_=>false)
 |_=>false
def strip:List Value->List Value
 | .ref _::r=>strip r
 |l=>l
theorem jY(self:Value):∀{l bm:List Value},strip l=bm->refuseLoop self "__setattr__" bm=pure ()->refuseLoop self "__setattr__" l=pure ()
 | [],_,e,h=>by rw[show([]:List Value)=_ from e];exact h
 | .ref c::r,_,e,h=>by rw[refuseLoop_ref];exact jY self (l:=r) e h
 | .type n::r,_,e,h=>by rw[show(Value.type n::r)=_ from e];exact h
 | .none::r,_,e,h=>by rw[show(Value.none::r)=_ from e];exact h
 | .bool b::r,_,e,h=>by rw[show(Value.bool b::r)=_ from e];exact h
 | .int i t::r,_,e,h=>by rw[show(Value.int i t::r)=_ from e];exact h
 | .float i t::r,_,e,h=>by rw[show(Value.float i t::r)=_ from e];exact h
 | .str i t::r,_,e,h=>by rw[show(Value.str i t::r)=_ from e];exact h
 | .bytes i t::r,_,e,h=>by rw[show(Value.bytes i t::r)=_ from e];exact h
 | .builtin n::r,_,e,h=>by rw[show(Value.builtin n::r)=_ from e];exact h
 | .ellipsis::r,_,e,h=>by rw[show(Value.ellipsis::r)=_ from e];exact h
 | .notImplemented::r,_,e,h=>by rw[show(Value.notImplemented::r)=_ from e];exact h
structure XSt(K:Frag)(C:Addr)(f:Str):Prop where
 sa:findIn K (.ref C) "__setattr__"=some (some (.builtin "object.__setattr__"))
 st:∃cd,clsIn K C=some cd/\strip cd.mro=[.type "ValueError",.type "Exception",.type "BaseException",.type "object"]/\cd.hasDict=true/\cd.mro.contains (.type "object")=true/\cd.mro.isEmpty=false
 no:findIn K (.ref C) f=some none
section
variable {prog:Program}{w:World}{A:Around}{E:Value->Shared->Prop}{s:Shared}{K:Frag}{x C:Addr}{ox:Obj}{vs:Array Value}{name:Str}{v:Value}
theorem set_new{Q:Unit->Shared->Prop}(X:K.In s.heap)(c:XSt K C name)(hx:s.heap.get? x=some ox)(hcl:ox.cls=.ref C)(hdn:ox.dict=none)(hdt:ox.data=.fields vs)
  (h:∀h' t',(∀b o,b≠x->s.heap.get? b=some o->h'.get? b=some o)->h'.get? x=some {ox with dict:=some s.heap.objs.size}->h'.Ns1 s.heap.objs.size (fun y=>if y=name then some v else none)->Q () {s with heap:=h',toks:=t' }) :
  wpAny (model prog w) A (setAttr (.ref x) name v) Q E s:=by
 obtain⟨cd,hc,hst,hhd,hob,hne⟩:=c.st
 obtain⟨oc,od,dt,sl⟩:=ox
 dsimp only at hcl hdn hdt
 subst hcl hdn hdt
 have J:InstAt s.heap x ⟨.ref C,none,.fields vs,sl⟩ C none:=⟨hx,rfl,rfl,trivial⟩
 obtain⟨hh,g,d,t,os⟩:=s
 have SF:=PySem.F.store_object
 refine set_plain X J c.sa ?_
 have sub:Looks (model prog w) hh (isInstance (.ref x) (.type "object")) true:=J.type.andThen (looks_mroIn X (by unfold mroIn;rw[hc,Option.bind_some,if_neg (by rw[hne];decide),hob]))
 refine codeAny_call_builtin SF.slot.plain SF.entry (@check_slot (model prog w) _ _ _ "object.__setattr__" "object" "__setattr__" (.ref x) [.str name t,v] [] _ SF.kind SF.split sub (SF.args (.ref x) (.str name t) v) ?_)
 have hm:Looks (model prog w) hh (mroOf (.ref C)) cd.mro:=(looks_clsIn X hc).andThen .now
 rw[osa_eq,refuse_eq]
 refine wpAny_bind (wpAny_bind (J.type.at (wpAny_bind (hm.at ?_))))
 rw[jY _ hst (PySem.F.store_ValueError.passes _)]
 refine wpAny_pure (wpAny_bind (J.type.at (wpAny_bind ((looks_findIn X c.no).at (wpAny_bind (wpAny_pure ?_))))))
 have hx₁:(hh.push {cls:=.type "dict",data:=.dict #[]}).get? x=some ⟨.ref C,none,.fields vs,sl⟩:=FR _ hx
 have hxs:x≠hh.objs.size:=F_ (Gg hx)
 show wpAny _ _ (storeInOwnDict (.ref x) (.ref C) (.str name t) name v false) _ _ _
 refine wpAny_bind (wpAny_pure (wpAny_bind (wpAny_bind (wpAny_loadPart hx ?_))))
 refine wpAny_bind ((looks_clsIn X hc).at ?_)
 rw[if_neg (by rw[hhd];decide)]
 dsimp only
 rw[if_neg (by simp[typeHasDict])]
 refine wpAny_bind (wpAny_alloc' ?_)
 refine wpAny_bind (wpAny_update' hx₁ ?_)
 refine wpAny_pure ?_
 have hgd:((hh.push {cls:=.type "dict",data:=.dict #[]}).update x fun o=>{cls:=o.cls,dict:=some hh.objs.size,data:=o.data,slots:=o.slots}).get? hh.objs.size
   = some {cls:=.type "dict",data:=.dict #[]}:=
  (Heap.get?_update_ne _ _ _ _ hxs.symm).trans (Heap.get?_push_at rfl rfl)
 have hnd:((hh.push {cls:=.type "dict",data:=.dict #[]}).update x fun o=>{cls:=o.cls,dict:=some hh.objs.size,data:=o.data,slots:=o.slots}).Ns hh.objs.size (fun _=>none):=
  ⟨_,#[],_,hgd,rfl,fun e he=>absurd he (by simp),fun _=>rfl⟩
 show wpAny _ _ (storeInDict hh.objs.size (.str name t) name v) _ _ _
 unfold storeInDict newKeyGuard
 refine wpAny_bind (wpAny_pure (wpAny_bind (wpAny_nsSet1 (Heap.Ns1.of_empty hnd) fun h' hn' hs=>?_)))
 obtain⟨oD,esD,epD,hoD,hdD,hcD⟩:=hn'.count (Within.cons name v Within.nil)
 refine wpAny_bind (wpAny_lookBehind hoD (by rw[hdD];exact pastItsLine_dict (Gn hcD (by rw[F2,List.length_nil,sizeLine_eq];omega))) ?_)
 refine wpAny_pure (h h' _ (fun b o hb e=>(hs.2 b (F_ (Gg e))).trans ((Heap.get?_update_ne _ _ _ _ hb).trans (FR _ e))) ?_ hn')
 exact(hs.2 x hxs).trans (F1 _ hx₁ rfl)
end
end PySem.W
namespace L2
open PySem PySem.Spec PyProof.Rows
structure vL(K:PySem.W.Frag)(C:Addr)(bmB:List Value)(newId:String):Prop where
 exc:PySem.W.excOut K C bmB newId=true
theorem vL.obj{K:PySem.W.Frag}{C:Addr}{bmB:List Value}{newId:String}{h:Heap}(c:vL K C bmB newId)(X:K.In h):∃bm N nm q bs hdct sn sub ab col dd k0 k1 k2 k3 k5,
  h.get? C=some (excClassObj nm q C N bs bm hdct sn sub ab col dd k0 k1 k2 k3 k5 newId)/\OwnTail h bmB bm/\∃dd' cd sl,K.lookup C=some ⟨.type "type",dd',.cls cd,sl⟩/\cd.mro=.ref C::bm:=by
 have q:=c.exc
 unfold PySem.W.excOut at q
 cases hl:K.lookup C with
 |none=>rw[hl]at q;cases q
 |some ob=>
  rw[hl]at q
  split at q
  ·rename_i dd cd sl e
   cases e
   split at q
   ·rename_i C' bm k0 k1 k2 k3 n k5 hm hs
    simp only[Bool.and_eq_true,beq_iff_eq,Bool.not_eq_true']at q
    obtain⟨⟨⟨⟨rfl,rfl⟩,hdel⟩,ht⟩,hok⟩:=q
    have ho:=X _ _ hl
    have hsl:sl=#[k0,k1,k2,k3,some (.builtin n),k5]:=Array.toList_inj.mp hs
    subst hsl
    obtain⟨nm,bs,mro,ns,qn,hd,sn,sub,ab,col,del⟩:=cd
    dsimp only at hm hdel hok ho
    subst hm hdel
    exact⟨bm,ns,nm,qn,bs,hd,sn,sub,ab,col,dd,k0,k1,k2,k3,k5,ho,PySem.W.tail_of_in X ht,dd,_,_,rfl,rfl⟩
   ·cases q
  ·cases q
def AH(ea:Addr)(cls:Value)(od:Option Addr)(h:Heap):Prop:=∃o vs,h.get? ea=some o/\o.cls=cls/\o.dict=od/\o.data=.fields vs/\vs[1]?=some .none/\vs[2]?=some .none/\vs.size=6
abbrev xn(ea:Addr)(cls:Value)(od:Option Addr):HO:=.ext (AH ea cls od)
theorem oP{ea:Addr}{cls:Value}{od:Option Addr}:∀h1 h2:Heap,AH ea cls od h1->(∀o,h1.get? ea=some o->h2.get? ea=some o)->AH ea cls od h2:=
 fun h1 h2 ⟨o,ws,e1,e2,e3,e4,e5⟩ k=>⟨o,ws,k o e1,e2,e3,e4,e5⟩
section
variable {X:Cx}{o value:Expr}{f:Str}{pos pos':Pos}{ta tv:TE}
def Ap(K:PySem.W.Frag)(ta tv:TE)(f:Str):TS:=fun D σ H=>tv σ H fun y H1=>ta σ H1 fun x H2=>∃a C,x=.ref a/\H2 a=some (xn a (.ref C) none)/\PySem.W.XSt K C f /\
 ∀d,H2 d=none->D.nx σ (ap (ap H2 d (.xd [(f,y)])) a (xn a (.ref C) (some d)))
theorem uE(ha:PE X o ta)(hv:PE X value tv)(hs:swapsWith value (some (.Attribute o f pos')) pos.line X.env=pure false):PS X (.Assign [.Attribute o f pos'] value pos) (Ap X.K ta tv f):=by
 intro pins s σ H D I h
 refine plainObj_wpAny_Assign_Attribute (bx (hv pins s σ H _ I h) fun u s1 ⟨y,H1,I1,ry,q⟩=>bx (ha pins s1 σ H1 _ I1 q) fun ov s2 ⟨x,H2,I2,rx,a,C,ex,ea,c,q2⟩=>?_) hs
 subst ex
 obtain rfl:ov=Value.ref a:=rx
 obtain⟨⟨ob,ws,e1,e2,e3,e4,e5⟩,_,_⟩:=(show bC X.prog X.w H2 s2.heap a (xn a (.ref C) none) from I2.hok a _ ea)
 refine PySem.W.set_new I2.kIn c e1 e2 e3 e4 fun h' t' hk hx hn=>?_
 have hfr:H2 s2.heap.objs.size=none:=I2.hok.fresh (Gc _)
 have hne:s2.heap.objs.size≠a:=Nat.ne_of_gt (Gg e1)
 have oa:(h'.update a fun _=>ob).get? a=some ob:=F1 _ hx (Obj.isFreed_of_fields e4)
 have oo:∀b,b≠a->(h'.update a fun _=>ob).get? b=h'.get? b:=fun b hb=>FW _ _ (Ne.symm hb)
 have I3:aH X pins σ (ap H2 s2.heap.objs.size (.xd [(f,y)])) {s2 with heap:=h'.update a fun _=>ob,toks:=t' }:=I2.laid (fun b u z=>by
   by_cases hb:b=a
   ·subst hb;rw[e1]at z;cases z;exact oa
   ·rw[oo b hb];exact hk b u hb z) (Gc _) ⟨_,hn.at fun o z=>(oo _ hne).trans z,fun g=>?_⟩
 ·have I4:=I3.write (x:=a) (e:=a) (o:=xn a (.ref C) (some s2.heap.objs.size)) (h':=h') (t':=t') (by rw[aj (Ne.symm hne),ea];exact True.intro) (.inl rfl) (fun b u hb z=>by rw[<- oo b hb];exact z) ⟨_,hx⟩ ⟨⟨_,ws,hx,e2,rfl,e4,e5⟩,⟨_,hx⟩,oP⟩
  exact⟨σ,_,I4,q2 _ hfr⟩
 ·show iw (List.lookup g [(f,y)]) (if g=f then some u else none)
  by_cases z:g=f
  ·have hb:(g==f)=true:=beq_iff_eq.mpr z
   simp only[List.lookup,hb,if_pos z]
   exact ry
  ·have hb:(g==f)=false:=beq_eq_false_iff_ne.mpr z
   simp only[List.lookup,hb,if_neg z]
   exact True.intro
end
def jP(C:Addr)(fn:Str):Sp:=fun vs H Q _=>∃a v,vs=[.ref a,v]/\H a=some (xn a (.ref C) none)/\∀d,H d=none->Q .non (ap (ap H d (.xd [(fn,v)])) a (xn a (.ref C) (some d)))
def pV(H:Hp)(e:Addr):Hp:=fun b=>if b=e then none else H b
theorem eF{H:Hp}{e b:Addr}(h:b≠e):pV H e b=H b:=by unfold pV;rw[if_neg h]
theorem iR{H:Hp}{e:Addr}:pV H e e=none:=by unfold pV;rw[if_pos rfl]
def yi(X:Cx)(E:XK):Prop:=∀(pins:List (Addr×Obj)) (σ:St) (H2:Hp) (s2:Shared) (hm:Heap) (H3:Hp) (s3:Shared) (e C:Addr) (od:Option Addr),aH X pins σ H2 s2->aH X pins σ H3 s3->s2.heap.get? e=none ->
 (∀b o,s2.heap.get? b=some o->hm.get? b=some o)->Un (lg X.stack) [] (ap H2 e (xn e (.ref C) none)) H3 hm s3.heap->s3.os=s2.os->H3 e=some (xn e (.ref C) od)->E (.ref C) od (pV H3 e)->X.xe (.ref e) s3
section
variable {P:Program}{w:World}{K:PySem.W.Frag}{mg:Str->Option Value}{base:Heap}{N:List Str}{qual:Str}{scope:Scope}{f:Addr}{cd:Value}{A:Around}{outer:List Env}{s:Shared}{H:Hp}{E E1:XK}
theorem dg(hE:∀c d H',E1 c d H'->E c d H'):yi (fq (dP P w) P w K mg base N qual scope f cd A outer s H E) E1:=by
 intro pins σ H2 s2 hm H3 s3 e C od I2 I3 new keep un os3 he3 q
 obtain⟨⟨oe,vs,g1,g2,g3,g4,g5⟩,_,_⟩:=(show bC P w H3 s3.heap e (xn e (.ref C) od) from I3.hok e _ he3)
 have ne:∀b o,s2.heap.get? b=some o->b≠e:=fun b o z y=>by rw[y,new]at z;cases z
 have h2e:H2 e=none:=by
  cases z:H2 e with
  |none=>rfl
  |some o=>
   obtain⟨ob,hob⟩:=(I2.hok e o z).there
   rw[new]at hob
   cases hob
 have hin:∀env∈(fq (dP P w) P w K mg base N qual scope f cd A outer s H E).stack,∀b,env.frame=some b->b∈e::lg (fq (dP P w) P w K mg base N qual scope f cd A outer s H E).stack:=fun env he b hb=>.tail _ (List.mem_filterMap.mpr ⟨env,he,hb⟩)
 have hff:=PySem.W.funFrames_hide I3.stack hin
 have u0:∀b,b≠e->H2 b=none->ap H2 e (xn e (.ref C) none) b=none:=fun b hb n=>by rw[aj hb];exact n
 have fly0:Fly0 P w (fq (dP P w) P w K mg base N qual scope f cd A outer s H E).stack H2 s2 (PySem.W.hideAll s3.heap (e::lg (fq (dP P w) P w K mg base N qual scope f cd A outer s H E).stack)) (pV H3 e) s3:=by
  refine⟨fun b o z=>PySem.W.of_hideAll _ z,hff,⟨fun b o z n hb _=>un.keep b o (keep b o z) (u0 b (ne b o z) n) hb (by simp),fun b o z n hb _=>un.slot b o (keep b o z) (u0 b (ne b o z) n) hb (by simp),fun b o z n _=>?_,fun b o z _=>un.there b o (keep b o z) (by simp),fun b xs z=>?_,fun b o y z=>?_,fun b ps z=>?_⟩,fun b o z=>?_,fun b o z=>?_,fun b o z hb=>?_,os3,I3.bare⟩
  ·rw[eF (ne b o z)]
   exact un.free b o (keep b o z) (u0 b (ne b o z) n) (by simp)
  ·have hb:b≠e:=aG z h2e
   rw[eF hb]
   exact un.tups b xs (by rw[aj hb];exact z)
  ·have hb:b≠e:=aG z h2e
   rw[eF hb]
   exact un.frzs b o y (by rw[aj hb];exact z)
  ·have hb:b≠e:=aG z h2e
   rw[eF hb]
   exact un.tbls b ps (by rw[aj hb];exact z)
  ·have hb:b≠e:=fun y=>by rw[y,iR]at z;cases z
   rw[eF hb]at z
   exact(I3.hok b o z).stay (fun _ _ _ y=>y) (fun c y=>by rw[eF (fun x=>by rw[x,he3]at y;cases y)];exact y) fun c xs y=>by rw[eF (fun x=>by rw[x,he3]at y;cases y)];exact y
  ·have hb:b≠e:=fun y=>by rw[y,iR]at z;cases z
   rw[eF hb]at z
   obtain⟨ob,hob⟩:=(I3.hok b o z).there
   refine⟨ob,PySem.W.hideAll_get _ hob fun hm=>?_⟩
   rcases F6.mp hm with y | y
   ·exact hb y
   ·rw[I3.stkFree b y]at z;cases z
  ·obtain⟨o',z'⟩:=un.there b o (keep b o z) (by simp)
   refine⟨o',PySem.W.hideAll_get _ z' fun hm=>?_⟩
   rcases F6.mp hm with y | y
   ·exact ne b o z y
   ·exact hb y
 have newB:(PySem.W.hideAll s3.heap (e::lg (fq (dP P w) P w K mg base N qual scope f cd A outer s H E).stack)).get? e=none:=PySem.W.hideAll_none _ (List.mem_cons_self ..)
 refine uD (cp:=fun v=>v=.none) (s:=s3) I3.ok.frames fly0.ff rfl g1 fly0.st newB g4 g5.1 ⟨_,g5.2.1,rfl⟩ fun h' fl2 up=>?_
 rw[g2,g3]at fl2
 exact⟨e,.ref C,od,_,pV H3 e,rfl,Fly0.up I2 rfl rfl rfl rfl rfl fly0 fl2 up,iR,hE _ _ _ q⟩
end
structure XI(P:Program)(w:World)(K:PySem.W.Frag)(mg:Str->Option Value)(base:Heap)(k:Nat)(C:Addr)(fn:Str):Prop where
 ex:∃(bm bmN:List Value) (newId Bn inN B nid initId:String) (fI:Addr) (fd:FuncData) (ps:List Str),vL K C bm newId/\ExcBaseFacts Bn newId inN bmN/\bm.contains (.type Bn)=true/\ExcBaseFacts B nid initId bm /\
  PySem.W.findIn K (.ref C) "__init__"=some (some (.ref fI))/\PySem.W.typeIn K (.ref fI)=some (.type "function")/\bb P w K mg base bL k fI fd ps (jP C fn)/\dq K fd ps []
section
variable {X:Cx}{x:Str}{np cpos pos:Pos}{e₀:Expr}{t:TA}{C:Addr}{fn:Str}{k:Nat}{E:XK}
def uF(C:Addr)(fn:Str)(E:XK)(t:TA):TS:=fun _ σ H=>t σ H fun vs H1=>vs.length<=sizeLine/\∃v,vs=[v]/\∀d,H1 d=none->E (.ref C) (some d) (ap H1 d (.xd [(fn,v)]))
theorem da(c:XI X.prog X.w X.K X.mg X.base k C fn)(hr:cI (k+1) X.A)(hc:X.calm=true)(hg:Gl X x)(hm:X.mg x=some (.ref C))(hx:yi X E)(ha:PA X [e₀] t)
  (hd:(x==("__debug__":Str))=false:=by decide +kernel) (he:starEach [e₀] X.env=(false,eval e₀ X.env)::starEach [] X.env:=by rfl) (hpl:(backTo cpos (starEach [] X.env)).any (·.1)=false:=by rfl) :
  PS X (.Raise (some (.Call (.Name x np) [e₀] [] cpos)) none pos) (uF C fn E t):=by
 obtain⟨bmB,bmN,newId,Bn,inN,B,nid,initId,fI,fd,ps,c1,c2,c3,c4,hi,hf,F,hb⟩:=c.ex
 intro pins s σ H D I h
 obtain⟨tl,N,nm,q,bs,hdct,sn,sub,ab,col,dd,k0,k1,k2,k3,k5,hC,T,_⟩:=c1.obj I.mod.kin
 refine kR (K:=X.K) (fI:=fI) (C:=C) (nm:=nm) (q:=q) (N:=N) (bs:=bs) (bm:=tl) (hdct:=hdct) (sn:=sn) (sub:=sub) (ab:=ab) (col:=col) (dd:=dd) (k0:=k0) (k1:=k1) (k2:=k2) (k3:=k3) (k5:=k5)
  c2 c3 c4 (T.hasType c4.hasBase) (I.ok.hd hc) (by rw[he];show(false||(backTo cpos (starEach [] X.env)).any (·.1))=false;rw[hpl];rfl) hi hf (iO I hg hm ⟨rfl,?_⟩ hd)
 rw[he]
 have ha':=ha cpos pins s σ H _ I h
 rw[he]at ha'
 refine Calls.evalArgs_plain (wpAny_mono ha' (fun us s₂ ⟨vs,H1,I1,r1,z,v,ev,q1⟩=>⟨rfl,by rw[<- r1.length];exact z,I1.bk _ _ hC,I1.kIn,T.keeps I1.bk,fun h' e hx'=>?_⟩) fun _ _ y=>y)
 subst ev
 obtain⟨u,rfl,ru⟩:=r1.one
 obtain⟨t0,he0,ht0,htt⟩:=hx'.there
 have ne:∀b o,s₂.heap.get? b=some o->b≠e:=fun b o z y=>by rw[y,hx'.new]at z;cases z
 have h1e:H1 e=none:=by
  cases z:H1 e with
  |none=>rfl
  |some o=>
   obtain⟨ob,hob⟩:=(I1.hok e o z).there
   rw[hx'.new]at hob
   cases hob
 have Im:aH X pins σ (ap H1 e (xn e (.ref C) none)) {s₂ with heap:=h' }:=by
  refine I1.call' (s':={s₂ with heap:=h' }) (ch:=[]) rfl ⟨fun b o z _ _ _=>hx'.keeps b o z,fun b o z _ _ _=>⟨o.slots,hx'.keeps b o z⟩,fun b o z n _=>by rw[aj (ne b o z)];exact n,fun b o z _=>⟨o,hx'.keeps b o z⟩,fun b xs z=>by rw[aj (aG z h1e)];exact z,fun b o y z=>by rw[aj (aG z h1e)];exact z,fun b ps z=>⟨#[],by rw[aj (aG z h1e),z];simp⟩⟩ (fun b o z=>?_) I1.bare (fun b z=>absurd z (by simp))
  by_cases hb:b=e
  ·subst hb
   rw[ac]at z
   cases z
   exact⟨⟨_,_,he0,rfl,rfl,rfl,rfl,rfl,rfl⟩,⟨_,he0⟩,oP⟩
  ·rw[aj hb]at z
   exact(I1.hok b o z).stay (fun c u _ y=>hx'.keeps c u y) (fun c y=>by rw[aj (aG y h1e)];exact y) fun c xs y=>by rw[aj (aG y h1e)];exact y
 have hsp:jP C fn [.ref e,v] (ap H1 e (xn e (.ref C) none)) (fun r H3=>r=.non/\∃d,H3 e=some (xn e (.ref C) (some d))/\E (.ref C) (some d) (pV H3 e)) (fun _ _ _=>False):=by
  refine⟨e,v,rfl,ac,fun d hd'=>⟨rfl,d,ac,?_⟩⟩
  have hde:d≠e:=fun y=>by rw[y,ac]at hd';cases hd'
  rw[aj hde]at hd'
  have ee:pV (ap (ap (ap H1 e (xn e (.ref C) none)) d (.xd [(fn,v)])) e (xn e (.ref C) (some d))) e=ap H1 d (.xd [(fn,v)]):=by
   funext b
   by_cases hb:b=e
   ·rw[hb,iR,aj (Ne.symm hde)];exact h1e.symm
   ·rw[eF hb,aj hb]
    by_cases hbd:b=d
    ·rw[hbd,ac,ac]
    ·rw[aj hbd,aj hb,aj hbd]
  rw[ee]
  exact q1 d hd'
 have hl:([Value.ref e,u]++[]).length=ps.length:=(F.len _ _ _ _ hsp:[V.ref e,v].length=ps.length)
 have r2:aS [V.ref e,v] [Value.ref e,u]:=.cons rfl (.cons ru .nil)
 refine wpAny_call (codeAny_mono (F.run _ X.stack _ _ ⟨[.ref e,u],[]⟩ [.ref e,u] _ _ _ (hr.make C [u] []) (Im.env0.make C [u] []) (hb _ [Value.ref e,u] Im.kIn hl) r2 hsp) fun r s' hq'=>?_)
 cases r with
 |error ev=>exact False.elim hq'
 |ok fl=>
  cases fl with
  |ret u'=>
   obtain⟨v',H3,os3,bare3,un3,hok3,rv,ev,d,he3,qE⟩:=hq'
   subst ev
   have I3:=Im.call' (ch:=[]) os3 un3 hok3 bare3 (fun b z=>absurd z (by simp))
   obtain⟨⟨oe,ws,g1,g2,g3,g4,g5⟩,_,_⟩:=(show bC X.prog X.w H3 s'.heap e (xn e (.ref C) (some d)) from I3.hok e _ he3)
   exact⟨rv,oe,ws,I3.bk _ _ hC,g1,g2,g4,g5.1,hx pins σ H1 s₂ h' H3 s' e C (some d) I1 I3 hx'.new hx'.keeps un3 os3 he3 qE⟩
  |next=>exact False.elim hq'
  |brk=>exact False.elim hq'
  |cont=>exact False.elim hq'
end
section
variable {X:Cx}{P:Program}{w:World}{e tg:Expr}{tx:TX}{g:TG}{i:Nat}{n x:Str}{D:Addr}{bmD:List Value}{nD:String}{b₀:Stmt}{suite:List Stmt}{apos pos hpos np:Pos}{ts:Addr->TS}
end
section
variable {X:Cx}{pins:List (Addr×Obj)}{σ:St}{H:Hp}{s:Shared}
end
end L2
namespace PySem.W
open PySem PySem.Spec PySem.Calls PyProof.Rows
section
variable {prog:Program}{w:World}{A:Around}{E:Value->Shared->Prop}{s:Shared}{K:Frag}{x D:Addr}{ox:Obj}{odo:Option Obj}{name:Str}
end
end PySem.W
namespace L2
open PySem PySem.Spec PyProof.Rows
section
variable {X:Cx}{e:Expr}{ta:TE}{f:Str}{pos:Pos}
end
end L2
namespace SpM
open PySem
def glue(c:Nat):List (List Nat)->List Nat
 | []=>[]
 | [p]=>p
 |p::q::r=>p++c::glue c (q::r)
def step(c:Nat)(rows:List (List Nat))(d:Nat):List (List Nat):=if d=c then rows++[[]] else rows.dropLast++[rows.getLastD []++[d]]
def parts(c:Nat)(x:List Nat):List (List Nat):=x.foldl (step c) [[]]
theorem oR(c:Nat):∀{rows:List (List Nat)},rows≠[]->glue c (rows++[[]])=glue c rows++[c]
 | [p],_=>by simp[glue]
 |p::q::r,_=>by
  have:=oR c (rows:=q::r) (by simp)
  show p++c::glue c ((q::r)++[[]])=(p++c::glue c (q::r))++[c]
  rw[this];simp
theorem ot(c d:Nat):∀{rows:List (List Nat)},rows≠[]->glue c (rows.dropLast++[rows.getLastD []++[d]])=glue c rows++[d]
 | [p],_=>by simp[glue]
 |p::q::r,_=>by
  have:=ot c d (rows:=q::r) (by simp)
  have e:(p::q::r).dropLast++[(p::q::r).getLastD []++[d]]=p::((q::r).dropLast++[(q::r).getLastD []++[d]]):=by simp
  rw[e]
  obtain⟨u,v,e2⟩:∃u v,(q::r).dropLast++[(q::r).getLastD []++[d]]=u::v:=by
   cases h:(q::r).dropLast with
   |nil=>exact⟨_,[],rfl⟩
   |cons u v=>exact⟨u,v++_,rfl⟩
  rw[e2]at this ⊢
  show p++c::glue c (u::v)=(p++c::glue c (q::r))++[d]
  rw[this];simp
theorem fold_spec(c:Nat):∀(x:List Nat) (rows:List (List Nat)),rows≠[]->(∀p∈rows,c∉p)->x.foldl (step c) rows≠[]/\(∀p∈x.foldl (step c) rows,c∉p)/\glue c (x.foldl (step c) rows)=glue c rows++x
 | [],rows,h,hf=>⟨h,hf,by simp⟩
 |d::x,rows,h,hf=>by
  have h1:step c rows d≠[]:=by unfold step;split<;>simp
  have h2:∀p∈step c rows d,c∉p:=by
   intro p hp
   unfold step at hp
   split at hp
   ·rcases F4.mp hp with q | q
    ·exact hf p q
    ·rw[FT.mp q];simp
   ·rename_i hd
    rcases F4.mp hp with q | q
    ·exact hf p (List.dropLast_subset _ q)
    ·rw[FT.mp q]
     intro z
     rcases F4.mp z with z | z
     ·have hl:rows.getLastD []∈rows:=by
       rw[List.getLastD_eq_getLast?,List.getLast?_eq_some_getLast h]
       exact List.getLast_mem h
      exact hf _ hl z
     ·exact hd (FT.mp z).symm
  have h3:glue c (step c rows d)=glue c rows++[d]:=by
   unfold step
   split
   ·rename_i e;rw[e];exact oR c h
   ·exact ot c d h
  obtain⟨g1,g2,g3⟩:=fold_spec c x (step c rows d) h1 h2
  exact⟨g1,g2,by rw[List.foldl_cons,g3,h3];simp⟩
theorem vj{c:Nat}:∀{p q a b:List Nat},c∉p->c∉q->p++c::a=q++c::b->p=q/\a=b
 | [],[],a,b,_,_,e=>⟨rfl,by simpa using e⟩
 | [],y::q,a,b,_,hq,e=>by simp at e;exact absurd e.1 (fun z=>hq (by simp[z]))
 |x::p,[],a,b,hp,_,e=>by simp at e;exact absurd e.1.symm (fun z=>hp (by simp[z]))
 |x::p,y::q,a,b,hp,hq,e=>by
  simp at e
  obtain⟨e1,e2⟩:=vj (p:=p) (q:=q) (fun z=>hp (by simp[z])) (fun z=>hq (by simp[z])) e.2
  exact⟨by rw[e.1,e1],e2⟩
theorem glue_inj(c:Nat):∀{rows rows':List (List Nat)},rows≠[]->rows'≠[]->(∀p∈rows,c∉p)->(∀p∈rows',c∉p)->glue c rows=glue c rows'->rows=rows'
 | [p],[q],_,_,_,_,e=>by simpa[glue]using e
 | [p],q::q'::r,_,_,hf,_,e=>by
  have:c∈p:=by rw[show p=q++c::glue c (q'::r) from e];simp
  exact absurd this (hf p (by simp))
 |p::p'::r,[q],_,_,_,hf,e=>by
  have:c∈q:=by rw[show q=p++c::glue c (p'::r) from e.symm];simp
  exact absurd this (hf q (by simp))
 |p::p'::r,q::q'::r',_,_,h1,h2,e=>by
  obtain⟨e1,e2⟩:=vj (h1 p (by simp)) (h2 q (by simp)) (show p++c::glue c (p'::r)=q++c::glue c (q'::r') from e)
  have:=glue_inj c (rows:=p'::r) (rows':=q'::r') (by simp) (by simp) (fun z hz=>h1 z (by simp[hz])) (fun z hz=>h2 z (by simp[hz])) e2
  rw[e1,this]
theorem join_glue(c:Nat):∀(ys:List Str),(Builtin.Str.glued ⟨#[c]⟩ ys).cps.toList=glue c (ys.map fun y=>y.cps.toList)
 | []=>rfl
 |y::ys=>by
  have key:∀(zs:List Str) (a:Array Nat),(zs.foldl (fun acc (p:Str)=>acc++(⟨#[c]⟩:Str).cps++p.cps) a).toList=glue c (a.toList::zs.map fun y=>y.cps.toList):=by
   intro zs
   induction zs with
   |nil=>intro a;rfl
   |cons z zs ih=>
    intro a
    rw[List.foldl_cons,ih]
    show glue c ((a ++ #[c]++z.cps).toList::_)=a.toList++c::glue c (z.cps.toList::_)
    have e:(a ++ #[c]++z.cps).toList=a.toList++c::z.cps.toList:=by simp
    rw[e]
    cases zs with
    |nil=>simp[glue]
    |cons w ws=>simp[glue]
  exact key ys y.cps
theorem split_parts(x:Str)(c:Nat):(Txt.split x ⟨#[c]⟩).map (fun y=>y.cps.toList)=parts c x.cps.toList:=by
 obtain⟨g1,g2,g3⟩:=fold_spec c x.cps.toList [[]] (by simp) (by simp)
 have hne:(Txt.split x ⟨#[c]⟩).map (fun y=>y.cps.toList)≠[]:=by
  intro h
  have h0:Txt.split x ⟨#[c]⟩=[]:=by simpa using h
  unfold Txt.split at h0
  split at h0
  ·cases h0
  ·split at h0
   ·cases h0
   ·simp[Builtin.Str.partsBetween]at h0
 refine glue_inj c hne g1 (fun p hp=>?_) g2 ?_
 ·obtain⟨y,hy,rfl⟩:=GA.mp hp
  exact StrLaws.split_free x c y hy
 ·have h:=StrLaws.join_split x ⟨#[c]⟩
  have e:glue c ((Txt.split x ⟨#[c]⟩).map fun y=>y.cps.toList)=x.cps.toList:=by
   rw[<- join_glue,StrLaws.glued_eq_join,h]
  rw[e]
  unfold parts
  rw[g3]
  simp[glue]
theorem mI(c:Nat){n:Nat}{rows:List (List Nat)}(h:∀r∈rows,r.length<=n)(d:Nat):∀r∈step c rows d,r.length<=n+1:=by
 intro r hr
 unfold step at hr
 split at hr
 ·rcases F4.mp hr with q | q
  ·exact Nat.le_succ_of_le (h r q)
  ·rw[FT.mp q];simp
 ·rcases F4.mp hr with q | q
  ·exact Nat.le_succ_of_le (h r (List.dropLast_subset _ q))
  ·rw[FT.mp q,Gb]
   have:(rows.getLastD []).length<=n:=by
    by_cases e:rows=[]
    ·rw[e];simp
    ·have hl:rows.getLastD []∈rows:=by
      rw[List.getLastD_eq_getLast?,List.getLast?_eq_some_getLast e]
      exact List.getLast_mem e
     exact h _ hl
   simpa using this
theorem vX(c:Nat)(rows:List (List Nat))(d:Nat):(step c rows d).length<=rows.length+1:=by
 unfold step
 split
 ·simp
 ·rw[Gb,List.length_dropLast];simp
theorem jW(c:Nat):∀(x:List Nat) (rows:List (List Nat)) (n:Nat),(∀r∈rows,r.length<=n)->(∀r∈x.foldl (step c) rows,r.length<=n+x.length)/\(x.foldl (step c) rows).length<=rows.length+x.length
 | [],rows,n,h=>⟨by simpa using h,by simp⟩
 |d::x,rows,n,h=>by
  obtain⟨h1,h2⟩:=jW c x (step c rows d) (n+1) (mI c h d)
  have h3:=vX c rows d
  refine⟨fun r hr=>?_,?_⟩
  ·have:=h1 r hr;simp only[F2];omega
  ·rw[List.foldl_cons];simp only[F2];omega
theorem parts_len(c:Nat)(x:List Nat):(∀r∈parts c x,r.length<=x.length)/\(parts c x).length<=1+x.length:=by
 have:=jW c x [[]] 0 (by simp)
 unfold parts;simpa using this
theorem glue_len(c:Nat):∀{rows:List (List Nat)} {n:Nat},(∀r∈rows,r.length<=n)->(glue c rows).length<=rows.length*(n+1)
 | [],_,_=>by simp[glue]
 | [p],n,h=>by have:=h p (by simp);simp[glue];omega
 |p::q::r,n,h=>by
  have h1:=h p (by simp)
  have h2:=glue_len c (rows:=q::r) (n:=n) fun x hx=>h x (by simp[hx])
  show(p++c::glue c (q::r)).length<=_
  rw[Gb,F2,F2,Nat.succ_mul]
  omega
end SpM
namespace PyProof.Rows
open PySem PySem.Spec PySem.Builtin PySem.Builtin.Str
section
variable {prog:Program}{w:World}{A:Around}{E:Value->Shared->Prop}{s:Shared}{x y:Str}{t u:Tok}{Q:Value->Shared->Prop}
theorem sO(hy:(y.length==0)=false)
  (h:∀(l:List (Str×Tok)) (k:Nat),l.map (·.1)=Txt.split x y->Q (.ref s.heap.objs.size) {s with heap:=s.heap.push {cls:=.type "list",data:=.seq (strValues l).toArray},toks:=k})
  (hsz:x.length+2<=sizeLine):wpAny (model prog w) A (call (.builtin "str.split") [.str x t,.str y u]) Q E s:=by
 have hn:(partsBetween x (occurrences x y 0 x.length (x.length+1)) y.length).length<=sizeLine:=by
  have e1:=StrLaws.occ_length_le x y 0 x.length (x.length+1)
  rw[length_partsBetween];omega
 cases h1:(decide (x.length<y.length)||decide (Builtin.Str.strKind x<Builtin.Str.strKind y))
 ·cases hf:(occurrences x y 0 x.length (x.length+1)).isEmpty
  ·refine call_meets F.slot_str_split (typeIs_str _ _ _) F.entry_str_split (F.args_str_split_2 _ _) (meets_str_split_sep x y t u h1 hy hf (by omega) hn) ?_
   show wants Q E _ {s with toks:=_,heap:=s.heap.push {cls:=.type "list",data:=.seq (strsFrom s.toks (partsBetween x (occurrences x y 0 x.length (x.length+1)) y.length)).toArray} }
   rw[strsFrom_eq]
   exact h (numbered s.toks _) _ ((numbered_texts _ _).trans ((if_neg (ne_true_of_eq_false h1)).trans (if_neg (ne_true_of_eq_false hf))).symm)
  ·exact call_meets F.slot_str_split (typeIs_str _ _ _) F.entry_str_split (F.args_str_split_2 _ _) (meets_str_split_not_found x y t u h1 hy hf)
    (h [(x,t)] s.toks ((if_neg (ne_true_of_eq_false h1)).trans (if_pos hf)).symm)
 ·exact call_meets F.slot_str_split (typeIs_str _ _ _) F.entry_str_split (F.args_str_split_2 _ _) (meets_str_split_cannot_occur x y t u h1)
   (h [(x,t)] s.toks (if_pos h1).symm)
end
end PyProof.Rows
namespace L2
open PySem PySem.Spec PyProof.Rows QL
theorem oY:∀(l:List (Str×Tok)),aS ((l.map (·.1)).map V.str) (strValues l)
 | []=>.nil
 | (a,t)::l=>.cons ⟨t,rfl⟩ (oY l)
theorem lU(z:List Nat)(c:Nat):(Txt.split (tx z) ⟨#[c]⟩).map V.str=az (SpM.parts c z):=by
 have e:=SpM.split_parts (tx z) c
 rw[fA]at e
 rw[<- e]
 unfold az
 rw[F5]
 refine List.map_congr_left fun y _=>?_
 show V.str y=V.str (tx y.cps.toList)
 unfold tx
 simp
section
variable {X:Cx}
end
structure xf(K:PySem.W.Frag)(C:Addr)(m:Str)(f:Addr):Prop where
 sp:PySem.W.specialIn K (.ref C) "__getattribute__"=some (some (.builtin "type.__getattribute__"))
 rd:PySem.W.readsIn K C (.type "type")=true
 fi:PySem.W.findCls K (.ref C) (.type "type") m=some (.val (.ref f))
 kp:PySem.W.keepIn K (.ref f)=true
section
variable {X:Cx}{CX:jH}{k:Nat}{f C:Addr}{fd:FuncData}{ps:List Str}{sp:Sp}{E:XK}{x m:Str}{p pos apos:Pos}{e:Expr}{es:List Expr}{t:TA}
theorem xM{pl:Sem Bool}(c:xf X.K C m f)(F:bb X.prog X.w X.K X.mg X.base CX k f fd ps sp)(hr:cI k X.A)(hg:Gl X x)(hm:X.mg x=some (.ref C))(hb:dq X.K fd ps [])(hx:cn CX X E)(ha:PA X (e::es) t)
  (hdb:(x==("__debug__":Str))=false:=by decide +kernel) (hst:starEach (e::es) X.env=(false,eval e X.env)::starEach es X.env:=by rfl) (hpl:(backTo pos (starEach es X.env)).any (·.1)=false:=by rfl)
  (ht:eval (.Call (.Attribute (.Name x p) m apos) (e::es) [] pos) X.env=(do
   let ov <- eval (.Name x p) X.env
   standAt apos.atName
   let (f,first) <- holding [ov] (getMethod ov m pl)
   callWith pos f first (backTo pos (starEach (e::es) X.env)) (backToKw pos (keywordEach [] X.env))):=by rfl) :
  PE X (.Call (.Attribute (.Name x p) m apos) (e::es) [] pos) (pj sp [] E t):=by
 intro pins s σ H Q I h
 refine PySem.W.methodCall_KW (pl:=pl) (iO I hg hm ?_ hdb) ht
 refine PySem.W.method_cls I.kIn c.sp (PySem.W.cls_value I.kIn c.rd c.fi rfl ?_)
 have I1:=I.tok (s.toks+1)
 refine PySem.W.callWith_K (first:=[]) (h₀:=X.base) I.ok.mod.kin c.kp (bx (ha pos pins _ σ H _ I1 h) fun us s2 ⟨vs,H2,I2,r,q2⟩=>⟨I2.kIn,?_⟩) hst hpl
 exact lB F hr hb .nil hx I2 r q2
end
section
variable (P:Program)(w:World)(K:PySem.W.Frag)(mg:Str->Option Value)(base:Heap)(CX:jH)
structure v9(k:Nat)(x m:Str)(ps:List Str)(sp:Sp):Prop where
 ex:∃(C f:Addr) (fd:FuncData),bb P w K mg base CX k f fd ps sp/\mg x=some (.ref C)/\xf K C m f/\dq K fd ps []
structure m5(k:Nat)(x:Str)(C:Addr)(ps:List Str)(sp:Sp):Prop where
 ex:∃(f:Addr) (fd:FuncData),bb P w K mg base CX k f fd ps sp/\mg x=some (.ref C)/\Mk K C f/\dq K fd ps []
structure l6(k:Nat)(C:Addr)(m:Str)(ps:List Str)(sp:Sp):Prop where
 ex:∃(f:Addr) (fd:FuncData),bb P w K mg base CX k f fd ps sp/\oj K C/\nC K C m f/\dq K fd ps []
end
section
variable {X:Cx}{CX:jH}{k:Nat}{C:Addr}{ps:List Str}{sp:Sp}{E:XK}{x m:Str}{p pos apos:Pos}{e o:Expr}{es:List Expr}{t:TA}{ta:TE}
theorem mq{pl:Sem Bool}(c:v9 X.prog X.w X.K X.mg X.base CX k x m ps sp)(hr:cI k X.A)(hg:Gl X x)(hx:cn CX X E)(ha:PA X (e::es) t)
  (hdb:(x==("__debug__":Str))=false:=by decide +kernel) (hst:starEach (e::es) X.env=(false,eval e X.env)::starEach es X.env:=by rfl) (hpl:(backTo pos (starEach es X.env)).any (·.1)=false:=by rfl)
  (ht:eval (.Call (.Attribute (.Name x p) m apos) (e::es) [] pos) X.env=(do
   let ov <- eval (.Name x p) X.env
   standAt apos.atName
   let (f,first) <- holding [ov] (getMethod ov m pl)
   callWith pos f first (backTo pos (starEach (e::es) X.env)) (backToKw pos (keywordEach [] X.env))):=by rfl) :
  PE X (.Call (.Attribute (.Name x p) m apos) (e::es) [] pos) (pj sp [] E t):=by
 obtain⟨C,f,fd,F,hm,cf,hb⟩:=c.ex
 exact xM cf F hr hg hm hb hx ha hdb hst hpl ht
theorem jQ(c:m5 X.prog X.w X.K X.mg X.base CX k x C ps sp)(hr:cI (k+1) X.A)(hg:Gl X x)(hx:cn CX X E)(ha:PA X (e::es) t)
  (hdb:(x==("__debug__":Str))=false:=by decide +kernel) (hst:starEach (e::es) X.env=(false,eval e X.env)::starEach es X.env:=by rfl) (hpl:(backTo pos (starEach es X.env)).any (·.1)=false:=by rfl) :
  PE X (.Call (.Name x p) (e::es) [] pos) (x9 C sp [] E t):=by
 obtain⟨f,fd,F,hm,M,hb⟩:=c.ex
 exact yO M F hr hg hm hb .nil hx ha hdb hst hpl
theorem uy{pl:Sem Bool}(c:l6 X.prog X.w X.K X.mg X.base CX k C m ps sp)(hr:cI k X.A)(hx:cn CX X E)(he:PE X o ta)(ha:PA X (e::es) t)
  (hst:starEach (e::es) X.env=(false,eval e X.env)::starEach es X.env:=by rfl) (hpl:(backTo pos (starEach es X.env)).any (·.1)=false:=by rfl)
  (ht:eval (.Call (.Attribute o m apos) (e::es) [] pos) X.env=(do
   let ov <- eval o X.env
   standAt apos.atName
   let (f,first) <- holding [ov] (getMethod ov m pl)
   callWith pos f first (backTo pos (starEach (e::es) X.env)) (backToKw pos (keywordEach [] X.env))):=by rfl) :
  PE X (.Call (.Attribute o m apos) (e::es) [] pos) (sw C m sp [] E ta t):=by
 obtain⟨f,fd,F,cl,hm,hb⟩:=c.ex
 exact zE he cl hm F hr hb .nil hx ha hst hpl ht
theorem xH{pl:Sem Bool}(c:l6 X.prog X.w X.K X.mg X.base CX k C m ps sp)(hr:cI k X.A)(hx:cn CX X E)(he:PE X o ta)
  (ht:eval (.Call (.Attribute o m apos) [] [] pos) X.env=(do
   let ov <- eval o X.env
   standAt apos.atName
   let (f,first) <- holding [ov] (getMethod ov m pl)
   callWith pos f first (backTo pos (starEach [] X.env)) (backToKw pos (keywordEach [] X.env))):=by rfl) :
  PE X (.Call (.Attribute o m apos) [] [] pos) (sw C m sp [] E ta qK):=by
 obtain⟨f,fd,F,cl,hm,hb⟩:=c.ex
 exact wL he cl hm F hr hb .nil hx ht
end
section
variable {g:TG}{ti:TT}{te:TE}{σ:St}{H:Hp}{Q:List V->Hp->Prop}
theorem xz{x:Str}(Pv:Nat->List V->St->Hp->Prop)(h0:Pv 0 [] σ H)(hz:∀i acc σ H,Pv i acc σ H->acc.length<sizeLine)(hi:∀i acc σ H,Pv i acc σ H->i<=x.cps.size)
  (hs:∀i c acc σ H,x.cps[i]?=some c->Pv i acc σ H->g (.str ⟨#[c]⟩) σ H fun σ2 H3=>ti σ2 H3 fun b H4=>if b=true then te σ2 H4 fun v H5=>Pv (i+1) (acc++[v]) σ2 H5 else Pv (i+1) acc σ2 H4)
  (he:∀acc σ H,Pv x.cps.size acc σ H->Q acc H):jd (B3 x) g ti te σ H Q:=by
 exact qh (J:=B3 x) (g:=g) (ti:=ti) (te:=te) (Q:=Q) (n:=x.cps.size) Pv h0 hz hi (fun acc σ H w=>Gc _) (fun i acc σ H hlt w=>hlt)
  (fun i v acc σ H H2 hlt w y=>by obtain⟨rfl,c,hc,rfl⟩:=y;exact hs i c acc σ H2 hc w) he
end
section
variable {X:Cx}{e:Expr}{tx:TX}{i:Nat}{n x:Str}{D:Addr}{bmD:List Value}{nD:String}{b₀:Stmt}{suite:List Stmt}{epos pos hpos np:Pos}{ts:Addr->TS}
end
section
variable (P:Program)(w:World)(K:PySem.W.Frag)(mg:Str->Option Value)(base:Heap)(CX:jH)
structure tF(k:Nat)(m:Str)(os:List (Addr×Sp)):Prop where
 ex:∀o∈os,∃ps,l6 P w K mg base CX k o.1 m ps o.2
end
def sW(m:Str)(os:List (Addr×Sp))(E:XK)(ta:TE)(t:TA):TE:=fun σ H Q=>ta σ H fun x H1=>∃o∈os,∃a dx fs,x=.ref a/\H1 a=some (.ins o.1 dx fs)/\fs.lookup m=none /\
 t σ H1 fun vs H2=>o.2 (x::(vs++[])) H2 Q E
section
variable {X:Cx}{CX:jH}{k:Nat}{os:List (Addr×Sp)}{E:XK}{m:Str}{pos apos:Pos}{e o:Expr}{es:List Expr}{t:TA}{ta:TE}
theorem Ch{pl:Sem Bool}(c:tF X.prog X.w X.K X.mg X.base CX k m os)(hr:cI k X.A)(hx:cn CX X E)(he:PE X o ta)(ha:PA X (e::es) t)
  (hst:starEach (e::es) X.env=(false,eval e X.env)::starEach es X.env:=by rfl) (hpl:(backTo pos (starEach es X.env)).any (·.1)=false:=by rfl)
  (ht:eval (.Call (.Attribute o m apos) (e::es) [] pos) X.env=(do
   let ov <- eval o X.env
   standAt apos.atName
   let (f,first) <- holding [ov] (getMethod ov m pl)
   callWith pos f first (backTo pos (starEach (e::es) X.env)) (backToKw pos (keywordEach [] X.env))):=by rfl) :
  PE X (.Call (.Attribute o m apos) (e::es) [] pos) (sW m os E ta t):=by
 intro pins s σ H Q I h
 refine PySem.W.methodCall_KW (pl:=pl) (bx (he pins s σ H _ I h) fun u s1 ⟨x,H1,I1,rx,oc,ho,a,dx,fs,ex,ea,l,q⟩=>?_) ht
 subst ex
 obtain rfl:u=Value.ref a:=rx
 obtain⟨ps,cm⟩:=c.ex oc ho
 obtain⟨f,fd,F,cl,hm,hb⟩:=cm.ex
 refine fh I1 ea cl hm l ?_
 refine PySem.W.callWith_K (first:=[.ref a]) (h₀:=X.base) I.ok.mod.kin hm.kp (bx (ha pos pins s1 σ H1 _ I1 q) fun us s2 ⟨vs,H2,I2,r,q2⟩=>⟨I2.kIn,?_⟩) hst hpl
 exact lB (us:=.ref a::us) (vs:=.ref a::vs) F hr hb .nil hx I2 (.cons rfl r) q2
theorem mz{pl:Sem Bool}(c:tF X.prog X.w X.K X.mg X.base CX k m os)(hr:cI k X.A)(hx:cn CX X E)(he:PE X o ta)
  (ht:eval (.Call (.Attribute o m apos) [] [] pos) X.env=(do
   let ov <- eval o X.env
   standAt apos.atName
   let (f,first) <- holding [ov] (getMethod ov m pl)
   callWith pos f first (backTo pos (starEach [] X.env)) (backToKw pos (keywordEach [] X.env))):=by rfl) :
  PE X (.Call (.Attribute o m apos) [] [] pos) (sW m os E ta qK):=by
 intro pins s σ H Q I h
 refine PySem.W.methodCall_KW (pl:=pl) (bx (he pins s σ H _ I h) fun u s1 ⟨x,H1,I1,rx,oc,ho,a,dx,fs,ex,ea,l,q⟩=>?_) ht
 subst ex
 obtain rfl:u=Value.ref a:=rx
 obtain⟨ps,cm⟩:=c.ex oc ho
 obtain⟨f,fd,F,cl,hm,hb⟩:=cm.ex
 refine fh I1 ea cl hm l ?_
 exact PySem.W.callWith_K0 (first:=[.ref a]) I1.kIn hm.kp (lB (us:=[.ref a]) (vs:=[.ref a]) F hr hb .nil hx I1 (.cons rfl .nil) q)
end
structure kA(K:PySem.W.Frag)(C:Addr):Prop where
 cl:oj K C
 ha:PySem.W.findIn K (.ref C) "__class__"=some (some (.builtin "object.__class__"))
 hn:PySem.W.specialIn K (.builtin "object.__class__") "__get__"=some (some (.builtin "getset_descriptor.__get__"))
 htk:PySem.W.takesIn K (.builtin "object.__class__")=some true
 hm:PySem.W.mroIn K C (.type "object")=some true
theorem kA.ty{K:PySem.W.Frag}{C a dx:Addr}{H:Hp}{fs:List (Str×V)}(i:kA K C)(e:H a=some (.ins C dx fs)):h_ K H (.ref a) (.ref C):=.ins e i.cl i.ha i.hn i.htk i.hm
section
variable {X:Cx}{CX:jH}{k:Nat}{os:List (Addr×Sp)}{m:Str}{pos apos:Pos}{e o:Expr}{es:List Expr}{t:TA}{ta:TE}
end
section
variable {X:Cx}{es:List Expr}{t:TA}
theorem bB{x j p}(hr:PA X es t):PA X (.Constant (.str x) j p::es) (j9 (tC (.str x)) t):=aa cV hr rfl
theorem br{x j p}(hr:PA X es t):PA X (.Constant (.int x) j p::es) (j9 (tC (.int x)) t):=aa ag hr rfl
end
end L2
namespace PyProof.Rows
open PySem PySem.Spec PySem.Builtin PySem.Builtin.Str
section
variable {prog:Program}{w:World}{A:Around}{E:Value->Shared->Prop}{s:Shared}{x y:Str}{t u:Tok}{Q:Value->Shared->Prop}
end
end PyProof.Rows
namespace L2
open PySem PySem.Spec PyProof.Rows QL
section
variable {X:Cx}
end
section
variable {X:Cx}
end
section
variable {X:Cx}{pins:List (Addr×Obj)}{σ:St}{H:Hp}{s:Shared}{a:Addr}{kvs:List (cW×V)}{k:cW}{u r:Value}{d:V}{A:Around}{E:Value->Shared->Prop}
theorem yk{Q:Value->Shared->Prop}(I:aH X pins σ H s)(e:H a=some (.dK kvs))(ry:aY (kV k) u)(rd:aY d r)(hl:kvs.length<sizeLine)
  (h1:∀v w' s',cj kvs k=some v->aH X pins σ H s'->aY v w'->Q w' s') (h2:cj kvs k=none->∀s',aH X pins σ (ap H a (.dK (dO kvs k d))) s'->Q r s') :
  wpAny (model X.prog X.w) A (call (.builtin "dict.setdefault") [.ref a,u,r]) Q E s:=by
 obtain⟨z,hd,vs,rel,dd⟩:=yt I.hok e
 have hz:vs.length<=sizeLine:=by rw[<- rel.length];exact z
 have hl':(dO kvs k d).length<=sizeLine:=by have:=fB kvs k d;omega
 refine call_meetsIn PySem.F.slot_dict_setdefault dd.typeIs PySem.F.entry_dict_setdefault (PySem.F.args_dict_setdefault_3 _ _ _) (kt_meets_setdefault (bQ X.prog X.w) a (o_ ry) hd r) ⟨vs,dd,hz,fun v hv=>?_,fun hn h' dd' hs=>?_⟩
 ·have q:=rel.val k
  rw[hv]at q
  cases hvv:cj kvs k with
  |none=>rw[hvv]at q;exact False.elim q
  |some v0=>rw[hvv]at q;exact h1 v0 v _ hvv (I.tok _) q
 ·have q:=rel.val k
  rw[hn]at q
  have hvv:cj kvs k=none:=by
   cases hvv:cj kvs k with
   |none=>rfl
   |some v0=>rw[hvv]at q;exact False.elim q
  have he:∃q,h'.get? a=some q:=let ⟨q,_,_,hq,_⟩:=dd';⟨q,hq⟩
  exact h2 hvv _ (md I (by rw[e];exact True.intro) hs he (ug hl' hd (rel.put k rd) dd'))
end
def rE(td ty tx:TE):TE:=fun σ H Q=>td σ H fun x H1=>∃a,x=.ref a/\DR H1 a/\ty σ H1 fun y H2=>tx σ H2 fun z H3=>∃kvs k,H3 a=some (.dK kvs)/\y=kV k/\kvs.length<sizeLine /\
 (∀v,cj kvs k=some v->Q v H3)/\(cj kvs k=none->Q z (ap H3 a (.dK (dO kvs k z))))
section
variable {X:Cx}{o e f:Expr}{apos cpos:Pos}{td ty tx:TE}
theorem nw(ho:PE X o td)(he:PE X e ty)(hf:PE X f tx)(m:M2 X o "setdefault" apos e f cpos):PE X (.Call (.Attribute o "setdefault" apos) [e,f] [] cpos) (rE td ty tx):=by
 intro pins s σ H Q I h
 refine wpAny_Call_method m.base m.few m.line PySem.F.plainAttrs_dict PySem.F.slot_dict_setdefault PySem.F.type_dict_setdefault (bx (ho pins s σ H _ I h) fun u s1 ⟨x,H1,I1,rx,a,ex,d,q1⟩=>?_)
 subst ex
 obtain rfl:u=Value.ref a:=rx
 obtain⟨t1,t2,_⟩:=AD I1 d
 refine⟨t1,t2,?_⟩
 rw[m.trees]
 refine Calls.callWith_builtin rfl (Calls.evalArgs_plain (Calls.spliced_cons (bx (he pins s1 σ H1 _ I1 q1) fun iv s2 ⟨y,H2,I2,ry,q2⟩=>
  Calls.spliced_cons (bx (hf pins s2 σ H2 _ I2 q2) fun fv s3 ⟨z,H3,I3,rz,kvs,k,hH,ey,hlen,g1,g2⟩=>Calls.spliced_nil ?_))))
 subst ey
 exact yk I3 hH ry rz hlen (fun v w' s4 hv I4 rv=>⟨v,H3,I4,rv,g1 v hv⟩) fun hn s4 I4=>⟨z,_,I4,rz,g2 hn⟩
end
section
variable {X:Cx}
end
section
variable {K:Type}[DecidableEq K]
def fC(σ:List K)(v:K):List K:=if v∈σ then σ else σ++[v]
def met(l:List K):List K:=l.foldl fC []
theorem rT(σ:List K)(v k:K):decide (k∈fC σ v)=(decide (k∈σ)||decide (k=v)):=by
 unfold fC
 by_cases h:v∈σ
 ·rw[if_pos h]
  by_cases e:k=v
  ·subst e;simp[h]
  ·simp[e]
 ·rw[if_neg h]
  simp[F4]
theorem lV(σ:List K)(v:K):(fC σ v).length=if decide (v∈σ) then σ.length else σ.length+1:=by
 unfold fC
 by_cases h:v∈σ<;>simp[h]
theorem rR(l:List K)(v:K):met (l++[v])=fC (met l) v:=by unfold met;rw[List.foldl_append];rfl
theorem uW:∀(l σ:List K),(l.foldl fC σ).length<=σ.length+l.length
 | [],σ=>Gc _
 |v::l,σ=>by
  have h:=uW l (fC σ v)
  have e:=lV σ v
  rw[List.foldl_cons,F2]
  split at e<;>omega
theorem ye(n:Nat)(l:List K)(h:l.length=n):(met l).length<=n:=by
 have:=uW l []
 rw[<- h];unfold met;simpa using this
end
section
variable {prog:Program}{w:World}{K:Type}[DecidableEq K]{knd:KeyKind prog w K}{A:Around}{R:Result->Shared->Prop}{I:Addr}{fp wr:List Addr}{G:Array GenState->Array GenState->Prop}{n:Nat}{P:Nat->Value->Prop}{St:Nat->Shared->Prop}
theorem yT(W:WalksS prog w A.in1 I fp wr G n P St)(S:Addr)(hSf:S∉fp)(l:List K)(hl:l.length=n)
  (hval:∀i v,P i v->∃k,l[i]?=some k/\knd.is k v=true/\v.scannable=true) (hb:n+1<scanBound) :
  ∀(k i:Nat) (s:Shared),n-i=k->i<=n->St i s ->
   s.heap.SetOf knd S (fun k'=>decide (k'∈met (l.take i))) (met (l.take i)).length ->
   (∀s',Moved (S::wr) G s s'->s'.heap.SetOf knd S (fun k'=>decide (k'∈met l)) (met l).length->R (.ok (.ret .none)) s') ->
   codeAny (model prog w) A (.builtin "set.update.loop" ⟨[.ref S,.ref I],[]⟩) R s:=by
 have hSw:S∉wr:=fun h=>hSf (W.sub _ h)
 have hsub:∀b∈wr,b∈S::wr:=fun b hb=>F7 _ hb
 intro k
 induction k with
 |zero=>
  intro i s hk hi hst hS hR
  have hin:i=n:=by omega
  subst hin
  rw[<- hl,Gv]at hS
  refine codeAny_builtin F.entry_set_update_loop ?_
  rw[Around.under_plainId F.plain_set_update_loop _]
  show wpAny _ A.in1 (pyNext (.ref I) >>= _) _ _ s
  refine wpAny_bind (W.done s _ _ hst fun s' hm=>?_)
  show wpAny _ A.in1 (ret Value.none) _ _ s'
  refine wpAny_pure (hR s' (hm.mono hsub) ?_)
  obtain⟨o,es,ep,t,ho,bh⟩:=hS
  exact⟨o,es,ep,t,hm.heap S _ hSw ho,bh⟩
 |succ k ih=>
  intro i s hk hi hst hS hR
  have hlt:i<n:=by omega
  refine codeAny_builtin F.entry_set_update_loop ?_
  rw[Around.under_plainId F.plain_set_update_loop _]
  show wpAny _ A.in1 (pyNext (.ref I) >>= _) _ _ s
  refine wpAny_bind (W.item i s _ _ hlt hst fun v s' hP hst' hm=>?_)
  obtain⟨key,hkey,his,hsc⟩:=hval i v hP
  have hS':s'.heap.SetOf knd S (fun k'=>decide (k'∈met (l.take i))) (met (l.take i)).length:=by
   obtain⟨o,es,ep,tb,ho,bh⟩:=hS
   exact⟨o,es,ep,tb,hm.heap S _ hSw ho,bh⟩
  show wpAny _ A.in1 (holding [v] (setAdd S v) >>= _) _ _ s'
  refine wpAny_bind (wpAny_holding ?_)
  unfold setAdd
  refine wpAny_holding ?_
  refine wpAny_bind (knd.pyHash (k:=key) his ?_)
  have hroom:(met (l.take i)).length+1<scanBound:=by have:=ye i (l.take i) (by rw[Gw];omega);omega
  refine wpAny_setAddHashed_of (knd:=knd) (s:={s' with toks:=s'.toks+1}) his hsc hS' hroom fun h' hsb hS2=>?_
  have ht:l.take (i+1)=l.take i++[key]:=by rw[List.take_add_one,hkey];rfl
  have hSi:h'.SetOf knd S (fun k'=>decide (k'∈met (l.take (i+1)))) (met (l.take (i+1))).length:=
   SetOf_congr hS2 (fun k'=>by rw[ht,rR,rT]) (by rw[ht,rR,lV])
  refine wpAny_pure ⟨plainId_quiet F.plain_set_update_loop _,ih (i+1) _ (by omega) hlt (W.frame _ s' _ _ hst' (Nat.le_succ _) fun b hb o e=>?_) hSi fun s'' hm'' hS''=>?_⟩
  ·rw[hsb.2 b (fun h:b=S=>hSf (by rw[<- h];exact hb))];exact e
  ·refine hR s'' (Moved.trans W.gtrans ((hm.mono hsub).then_heap (Nat.le_succ _) fun b o hb e=>?_) hm'') hS''
   rw[hsb.2 b (fun h:b=S=>hb (by rw[h];exact List.mem_cons_self))];exact e
end
def cJ(z:Str):List Str:=z.cps.toList.map fun c=>(⟨#[c]⟩:Str)
section
variable {prog:Program}{w:World}{A:Around}{E:Value->Shared->Prop}{s:Shared}
set_option maxHeartbeats 3200000 in
theorem nX{x:Str}{t:Tok}{Q:Value->Shared->Prop}(hh:A.handled=none)(hb:x.cps.size+1<scanBound)
  (h:∀(h':Heap) (tk:Nat),h'.SetOf (strKind prog w) s.heap.objs.size (fun k'=>decide (k'∈met (cJ x))) (met (cJ x)).length ->
   (∀b o,s.heap.get? b=some o->h'.get? b=some o)->Q (.ref s.heap.objs.size) {s with heap:=h',toks:=tk}) :
  wpAny (model prog w) A (call (.type "set") [.str x t]) Q E s:=by
 obtain⟨c,tl,hmro⟩:=PySem.F.called_set.mro
 have hmade:=PySem.F.called_set.made
 have hsub:=PySem.F.called_set.sub
 refine wpAny_call (codeAny_of_tree ?_)
 show wpAny _ _ (callAny (.type "set") _) _ _ _
 refine wpAny_pure ⟨Code.quiet_builtin _ (by decide +kernel),codeAny_builtin PySem.F.entry_type_call ?_⟩
 rw[Around.under_plain (weight_type_call_type "set" [.str x t] []) rfl]
 have h1:=PySem.F.called_set.notType
 have h2:=PySem.F.called_set.canCreate
 have hct:=PySem.F.typeCall_set_1 (.str x t)
 repeat (any_goals (first | assumption | wp_step))
 refine codeAny_mono (code_set_new_1 (.str x t) (E:=E) (Q₁:=fun obj s₁=>∃led:Bool,obj=.ref s.heap.objs.size/\s₁={s with heap:=s.heap.push {cls:=.type "set",dict:=none,data:=.set #[] 0 (.fresh 0 0 led)} }) fun led=>⟨led,rfl,rfl⟩) fun r s₁ hr=>?_
 cases r with
 |error e=>exact hr
 |ok fl=>
  cases fl with
  |ret obj=>
   obtain⟨led,rfl,rfl⟩:=hr
   have hS:(s.heap.push {cls:=.type "set",dict:=none,data:=.set #[] 0 (.fresh 0 0 led)}).get? s.heap.objs.size=some {cls:=.type "set",dict:=none,data:=.set #[] 0 (.fresh 0 0 led)}:=FX _ rfl
   have hT:Shared.TypeIs {s with heap:=s.heap.push {cls:=.type "set",dict:=none,data:=.set #[] 0 (.fresh 0 0 led)} } (.ref s.heap.objs.size) "set":=⟨_,hS,rfl⟩
   have hli:=PySem.F.called_set.init.lookup
   have hbi:=PySem.F.called_set.init.bind (.ref s.heap.objs.size)
   repeat (any_goals (first | assumption | wp_step))
   refine codeAny_mono (codeAny_call_builtin (R:=wants (fun r s₂=>r=.none/\∃h' tk,s₂={s with heap:=h',toks:=tk} /\
     h'.SetOf (strKind prog w) s.heap.objs.size (fun k'=>decide (k'∈met (cJ x))) (met (cJ x)).length /\
     (∀b o,s.heap.get? b=some o->h'.get? b=some o)) E) PySem.F.called_set.init.plain PySem.F.entry_set_init (check_set_init_1 hT ?_)) fun r₂ s₂ hr₂=>?_
   ·have hsls:=PySem.F.sub_str_set
    have hslf:=PySem.F.sub_str_frozenset
    have hne:(Value.type "str" == Value.type "dict")=false:=by decide
    unfold Builtin.«set.__init__» noKeywords Builtin.Frozenset.updateFrom
    generalize hPI:pyIter=PI
    wp_walk
    subst hPI
    refine wpAny_pyIter_str fun o St W hst=>?_
    refine wpAny_bind (wpAny_runValue ?_)
    have hSf:s.heap.objs.size∉[(s.heap.push {cls:=.type "set",dict:=none,data:=.set #[] 0 (.fresh 0 0 led)}).objs.size]:=by
     rw[Heap.size_push];simp only[FT]
     exact F_ (Gp _)
    refine yT (knd:=strKind prog w) ((W _ (by simp[hh])).toS) s.heap.objs.size hSf (cJ x) (by simp[cJ])
     (fun i v ⟨c,u,hc,hv⟩=>⟨⟨#[c]⟩,by unfold cJ;rw[FU,Array.getElem?_toList,hc];rfl,by rw[hv];exact strKind_is _ _ _ _,by rw[hv];rfl⟩) hb (x.cps.size-0) 0 _ (by omega) (Gd _) hst ?hS0 ?hR
    case hS0=>
     exact SetOf_congr ((setObjOf_fresh (knd:=strKind prog w) led).setOf (FR _ hS) (by unfold scanBound;omega)) (fun _=>rfl) rfl
    case hR=>
     intro s' hm hS'
     obtain⟨h',g',d',tk',os'⟩:=s'
     have eg:g'=s.gens:=hm.gens
     have ed:d'=s.drawn:=hm.drawn
     have eo:os'=s.os:=hm.os
     subst eg;subst ed;subst eo
     show wpAny _ _ _ _ _ _
     refine wpAny_pure ?_
     show wpAny _ _ (ret Value.none) _ _ _
     refine wpAny_pure ⟨rfl,h',tk',rfl,hS',fun b o' e=>?_⟩
     have hb:=Gg e
     refine hm.heap b o' ?_ (FR _ (FR _ e))
     simp only[F6,List.not_mem_nil,or_false,not_or,Heap.size_push]
     exact⟨F_ hb,F_ (Nat.lt_succ_of_lt hb)⟩
   ·cases r₂ with
    |error e=>exact hr₂
    |ok fl₂=>
     cases fl₂ with
     |ret r=>
      obtain⟨rfl,h',tk,rfl,hS',hk'⟩:=hr₂
      repeat (any_goals (first | assumption | wp_step))
      exact h _ _ hS' hk'
     |_=>exact hr₂.elim
  |_=>exact hr.elim
end
def uJ(t:TE):TE:=fun σ H Q=>t σ H fun x H1=>∃z,x=.str z/\z.cps.size+1<scanBound/\Q (.int (met (cJ z)).length) H1
section
variable {X:Cx}{e:Expr}{t:TE}{p p2 pos pos2:Pos}
theorem v7(hc:X.calm=true)(ha:PE X e t)(g1:Gl X "len")(m1:X.mg "len"=none)(g2:Gl X "set")(m2:X.mg "set"=none)
  (he1:starEach [.Call (.Name "set" p2) [e] [] pos2] X.env=[(false,eval (.Call (.Name "set" p2) [e] [] pos2) X.env)]:=by rfl)
  (he2:starEach [e] X.env=[(false,eval e X.env)]:=by rfl) :
  PE X (.Call (.Name "len" p) [.Call (.Name "set" p2) [e] [] pos2] [] pos) (uJ t):=by
 intro pins s σ H Q I h
 have hl:bootBuiltins "len"=some (.builtin "len"):=by decide +kernel
 have hs:bootBuiltins "set"=some (.type "set"):=by decide +kernel
 refine wpAny_Call_Name_kw (dG I g1 m1 hl ?_)
 refine PyProof.Rows.callWith_builtin1 ?_ he1 rfl
 rw[he1]
 show wpAny _ _ (spliced [(false,eval (.Call (.Name "set" p2) [e] [] pos2) X.env)]) _ _ _
 refine Calls.spliced_cons ?_
 refine wpAny_Call_Name_kw (dG (I.tok _) g2 m2 hs ?_)
 refine PyProof.Rows.callWith_type1 ?_ he2 rfl
 rw[he2]
 show wpAny _ _ (spliced [(false,eval e X.env)]) _ _ _
 refine Calls.spliced_cons (bx (ha pins _ σ H _ (I.tok _) h) fun u s1 ⟨x,H1,I1,rx,z,ex,hz,q⟩=>Calls.spliced_nil ?_)
 subst ex
 obtain⟨tk,rfl⟩:=rx
 refine nX (I.ok.hd hc) hz fun h' tk' hS hk=>Calls.spliced_nil ?_
 obtain⟨o,ho,hex,es,ep,tb,hd,_,_,hn,hf⟩:=hS.objOf
 have hle:=ye z.cps.size (cJ z) (by simp[cJ])
 have hb:z.cps.size<4096:=by unfold scanBound at hz;omega
 refine call_len_set ho hex hd hf (by rw[hn];have:((4096:Nat):Int)<2^63:=(by decide);omega) ?_
 rw[hn]
 exact⟨.int _,H1,(I1.kept (t':=_) hk),⟨_,rfl⟩,q⟩
end
abbrev NT:=List (Str×Addr×List Nat)
def sy(t:NT):List (cW×V):=t.map fun x=>(Sum.inr x.1,V.ref x.2.1)
def Aj(ns:List Nat):List V:=ns.map fun(n:Nat)=>V.int (n:Int)
structure cv(H:Hp)(p:Addr)(t:NT):Prop where
 dict:H p=some (.dK (sy t))
 list:∀x∈t,H x.2.1=some (.lst (Aj x.2.2))
 apart:(t.map (·.2.1)).Nodup
theorem cv.grow{H H':Hp}{p:Addr}{t:NT}(N:cv H p t)(k:∀a o,H a=some o->H' a=some o):cv H' p t:=⟨k _ _ N.dict,fun x hx=>k _ _ (N.list x hx),N.apart⟩
theorem xi(z:Str):∀t:NT,cj (sy t) (.inr z)=(t.find? fun x=>decide (x.1=z)).map fun x=>V.ref x.2.1
 | []=>rfl
 |x::t=>by
  have ih:=xi z t
  unfold sy at ih ⊢
  rw[Gk,List.find?_cons]
  by_cases e:x.1=z
  ·rw[bY (by rw[e])];simp[e]
  ·rw[b6 (fun h=>e (Sum.inr.inj h)),ih];simp[e]
theorem cv.new{H:Hp}{p l:Addr}{t:NT}{z:Str}(N:cv H p t)(hl:H l=none)(hz:cj (sy t) (.inr z)=none) :
  cv (ap (ap H l (.lst [])) p (.dK (dO (sy t) (.inr z) (.ref l)))) p (t++[(z,l,[])]):=by
 have hpl:p≠l:=fun e=>by have:=N.dict;rw[e,hl]at this;exact nomatch this
 have hx:∀x∈t,x.2.1≠l/\x.2.1≠p:=fun x hx=>by
  have q:=N.list x hx
  constructor
  ·intro e;rw[e,hl]at q;exact nomatch q
  ·intro e;rw[e,N.dict]at q;exact nomatch q
 refine⟨?_,fun x h=>?_,?_⟩
 ·rw[ac,yd _ hz];unfold sy;rw[F3];rfl
 ·rcases F4.mp h with h | h
  ·rw[aj (hx x h).2,aj (hx x h).1];exact N.list x h
  ·rw[FT.mp h,aj (Ne.symm hpl),ac];rfl
 ·rw[F3]
  refine List.nodup_append.mpr ⟨N.apart,by simp,fun a ha b hb=>?_⟩
  obtain⟨x,h1,rfl⟩:=GA.mp ha
  rw[List.map_singleton]at hb
  rw[FT.mp hb]
  exact(hx x h1).1
theorem cv.put{H:Hp}{p:Addr}{t:NT}{i k:Nat}{x:Str×Addr×List Nat}(N:cv H p t)(hi:t[i]?=some x) :
  cv (ap H x.2.1 (.lst (Aj (x.2.2++[k])))) p (t.set i (x.1,x.2.1,x.2.2++[k])):=by
 have hm:x∈t:=FV hi
 have hp:p≠x.2.1:=fun e=>by have:=N.list x hm;rw[<- e,N.dict]at this;exact nomatch this
 have hlt:i<t.length:=(FQ.mp hi).1
 have hk:sy (t.set i (x.1,x.2.1,x.2.2++[k]))=sy t:=by
  unfold sy
  apply List.ext_getElem?
  intro j
  rw[FU,FU,List.getElem?_set]
  by_cases e:i=j
  ·subst e;rw[if_pos rfl,if_pos hlt,hi];rfl
  ·rw[if_neg e]
 have ha:(t.set i (x.1,x.2.1,x.2.2++[k])).map (·.2.1)=t.map (·.2.1):=by
  apply List.ext_getElem?
  intro j
  rw[FU,FU,List.getElem?_set]
  by_cases e:i=j
  ·subst e;rw[if_pos rfl,if_pos hlt,hi];rfl
  ·rw[if_neg e]
 refine⟨by rw[aj hp,hk];exact N.dict,fun y hy=>?_,by rw[ha];exact N.apart⟩
 obtain⟨j,hj⟩:=List.mem_iff_getElem?.mp hy
 rw[List.getElem?_set]at hj
 by_cases e:i=j
 ·rw[if_pos e,if_pos hlt]at hj
  cases hj
  exact ac
 ·rw[if_neg e]at hj
  have hne:y.2.1≠x.2.1:=by
   intro q
   have h1:(t.map (·.2.1))[i]?=some x.2.1:=by rw[FU,hi];rfl
   have h2:(t.map (·.2.1))[j]?=some x.2.1:=by rw[FU,hj];simp[q]
   exact e ((List.getElem?_inj (FQ.mp h1).1 N.apart).mp (h1.trans h2.symm))
  rw[aj hne]
  exact N.list y (FV hj)
def i4(t:NT):List (Str×List Nat):=t.map fun x=>(x.1,x.2.2)
def bA(m:List (Str×List Nat))(z:Str):List (Str×List Nat):=if z∈m.map (·.1) then m else m++[(z,[])]
theorem wX{t:NT}{z:Str}{v:V}(h:cj (sy t) (.inr z)=some v):∃(i:Nat) (x:Str×Addr×List Nat),t[i]?=some x/\x.1=z/\v=.ref x.2.1:=by
 rw[xi]at h
 cases hf:t.find? (fun x=>decide (x.1=z)) with
 |none=>rw[hf]at h;exact nomatch h
 |some x=>
  rw[hf]at h
  have hv:V.ref x.2.1=v:=Option.some.inj h
  obtain⟨i,hi⟩:=List.mem_iff_getElem?.mp (List.mem_of_find?_eq_some hf)
  have hz:=List.find?_some hf
  exact⟨i,x,hi,of_decide_eq_true hz,hv.symm⟩
theorem uU(t:NT):(i4 t).map (·.1)=t.map (·.1):=by unfold i4;rw[F5];rfl
theorem Aw{t:NT}{z:Str}(h:cj (sy t) (.inr z)=none):¬ z∈(i4 t).map (·.1):=by
 intro m
 rw[uU]at m
 obtain⟨x,hx,e⟩:=GA.mp m
 refine xS h (GA.mpr ⟨(.inr x.1,.ref x.2.1),GA.mpr ⟨x,hx,rfl⟩,?_⟩)
 show(Sum.inr x.1:cW)=Sum.inr z
 rw[e]
theorem cv.setdef{H:Hp}{p l:Addr}{t:NT}{z:Str}{Q:VK}(N:cv H p t)(hl:H l=none)(hn:t.length<sizeLine)
  (h:∀(H':Hp) (t':NT) (i:Nat) (x:Str×Addr×List Nat),cv H' p t'->t'[i]?=some x->x.1=z->i4 t'=bA (i4 t) z->(∀y∈t',y∈t\/y.2.1=l)->(∀a o,a≠p->H a=some o->H' a=some o)->Q (.ref x.2.1) H') :
  ∃kvs k,ap H l (.lst []) p=some (.dK kvs)/\V.str z=kV k/\kvs.length<sizeLine/\(∀v,cj kvs k=some v->Q v (ap H l (.lst []))) /\
   (cj kvs k=none->Q (.ref l) (ap (ap H l (.lst [])) p (.dK (dO kvs k (.ref l))))):=by
 have hpl:p≠l:=fun e=>by have:=N.dict;rw[e,hl]at this;exact nomatch this
 have gr:∀a o,H a=some o->ap H l (.lst []) a=some o:=fun a o e=>by
  rw[aj (fun q=>by rw[q,hl]at e;exact nomatch e)];exact e
 refine⟨sy t,.inr z,gr _ _ N.dict,rfl,by unfold sy;rw[FS];exact hn,fun v hv=>?_,fun hz=>?_⟩
 ·obtain⟨i,x,hi,hx,rfl⟩:=wX hv
  refine h _ t i x (N.grow gr) hi hx ?_ (fun y hy=>.inl hy) fun a o _ e=>gr a o e
  have hm:z∈(i4 t).map (·.1):=by rw[uU];exact GA.mpr ⟨x,FV hi,hx⟩
  unfold bA;rw[if_pos hm]
 ·refine h _ (t++[(z,l,[])]) t.length (z,l,[]) (N.new hl hz) (by simp) rfl ?_ (fun y hy=>(F4.mp hy).imp id fun q=>by rw[FT.mp q]) fun a o ha e=>by rw[aj ha];exact gr a o e
  unfold bA;rw[if_neg (Aw hz)];unfold i4;rw[F3];rfl
theorem zv{t:NT}{i:Nat}{x:Str×Addr×List Nat}(k:Nat):i4 (t.set i (x.1,x.2.1,x.2.2++[k]))=(i4 t).set i (x.1,x.2.2++[k]):=by
 unfold i4;rw[List.map_set]
theorem j8{m:List (Str×List Nat)}{z:Str}(h:(m.map (·.1)).Nodup):((bA m z).map (·.1)).Nodup:=by
 unfold bA
 by_cases e:z∈m.map (·.1)
 ·rw[if_pos e];exact h
 ·rw[if_neg e,F3]
  refine List.nodup_append.mpr ⟨h,by simp,fun a ha b hb=>?_⟩
  rw[List.map_singleton]at hb
  rw[FT.mp hb]
  exact fun q=>e ((show a=z from q)▸ha)
section
variable {X:Cx}{K:PySem.W.Frag}{tg:Expr}
theorem Bi{o e:Expr}{es:List Expr}{to:TE}{t:TA}{name:Str}{apos cpos:Pos}{T id:String}{r:V->List V->Hp->VK->Prop}(hK:X.K=K)(pa:PlainAttrs T)(slot:Slot T name id)(hty:typeOf (.builtin id)=pure (.type "method_descriptor"))(hm:AF X id r)(ho:PE X o to)(ha:PA X (e::es) t)
  (hbase:attributeBase o name X.env (eval o X.env)=eval o X.env:=by rfl)
  (hfew:((backTo cpos (starEach (e::es) X.env)).all (fun x=>!x.1)&&(backToKw cpos (keywordEach [] X.env)).all (fun x=>x.1.isSome)
   && decide ((e::es).length+([]:List Keyword).length+(if([]:List Keyword).isEmpty then 0 else 1)<30))=true:=by rfl)
  (hline:(apos.endLine==cpos.line)=true:=by rfl) (hs:starEach (e::es) X.env=(false,eval e X.env)::starEach es X.env:=by rfl) (hplain:(backTo cpos (starEach es X.env)).any (·.1)=false:=by rfl) :
  PE X (.Call (.Attribute o name apos) (e::es) [] cpos) (Dk K T r to t):=hK▸dm pa slot hty hm ho ha hbase hfew hline hs hplain
end
end L2
namespace QL
open PySem PySem.Spec PyProof.Rows
end QL
namespace L2
open PySem PySem.Spec PyProof.Rows
section
variable {X:Cx}{CX:jH}{k:Nat}{C:Addr}{ps:List Str}{sp:Sp}{x:Str}{p pos:Pos}{e:Expr}{es:List Expr}{t:TA}
end
section
variable {X:Cx}{e:Expr}{tx:TX}{i:Nat}{n x:Str}{D:Addr}{bmD:List Value}{nD:String}{b₀:Stmt}{suite:List Stmt}{epos pos hpos np:Pos}{ts:Addr->TS}
end
section
variable {X:Cx}{CX:jH}{k:Nat}{C:Addr}{ps:List Str}{sp:Sp}{m:Str}{pos apos:Pos}{e o:Expr}{es:List Expr}{t:TA}{ta:TE}
end
section
variable {X:Cx}
end
end L2
namespace CtM
open PySem PySem.Builtin PySem.Builtin.Str QL SpM
theorem mI(c:Nat):∀(x:List Nat) (rows:List (List Nat)),rows≠[]->(x.foldl (SpM.step c) rows).length=rows.length+x.count c
 | [],rows,_=>by simp
 |d::x,rows,h=>by
  have h1:SpM.step c rows d≠[]:=by unfold SpM.step;split<;>simp
  rw[List.foldl_cons,mI c x _ h1,List.count_cons]
  unfold SpM.step
  by_cases e:d=c
  ·rw[if_pos e];subst e;simp;omega
  ·rw[if_neg e]
   have:0<rows.length:=List.length_pos_iff.mpr h
   simp[e];omega
end CtM
namespace L2
open PySem PySem.Spec PyProof.Rows QL
section
variable {K:PySem.W.Frag}{g:TG}{ti:TT}{te:TE}{σ:St}{H:Hp}{Q:List V->Hp->Prop}{α:Type}
theorem uC{as:List α}{f:α->Option V}{i:Nat}{x:α}(hx:as[i]?=some x):(as.take (i+1)).filterMap f=(as.take i).filterMap f++(f x).toList:=by
 rw[List.take_add_one,hx,List.filterMap_append]
 show _++List.filterMap f [x]=_
 cases h:f x<;>simp[h]
theorem Bg{as:List α}{f:α->Option V}(i:Nat):((as.take i).filterMap f).length<=as.length:=Gn (List.length_filterMap_le _ _) (by rw[Gw];omega)
theorem jT{as:List α}(f:α->V):as.filterMap (fun x=>some (f x))=as.map f:=by induction as with | nil=>rfl | cons x xs ih=>simp
theorem jl{a:Addr}{as:List α}{emb:α->V}{f:α->Option V}(S:St->Prop)(h0:S σ)(hl:∀H',aq H H'->aT K H' a (as.map emb))(hn:as.length<=1000000)
  (hs:∀(i:Nat) x,as[i]?=some x->∀σ H' (N1:V->St->Hp->Prop) (N0:St->Hp->Prop),S σ->aq H H'->(∀v σ2 H2,f x=some v->aq H H2->S σ2->N1 v σ2 H2)->(∀σ2 H2,f x=none->aq H H2->S σ2->N0 σ2 H2) ->
   g (emb x) σ H' fun σ2 H3=>ti σ2 H3 fun b H4=>if b=true then te σ2 H4 fun v H5=>N1 v σ2 H5 else N0 σ2 H4)
  (he:∀H',aq H H'->Q (as.filterMap f) H'):jd (yG K a) g ti te σ H Q:=by
 refine oB (xs:=as.map emb) (fun i acc σ H'=>aq H H'/\acc=(as.take i).filterMap f/\i<=as.length/\S σ) ⟨fun _ _ e=>e,rfl,Gd _,h0⟩ ?_ ?_ ?_ ?_ ?_
 ·rintro i acc σ H' ⟨_,rfl,_⟩
  have:=Bg (as:=as) (f:=f) i
  exact bw (by omega)
 ·rintro i acc σ H' ⟨_,_,h,_⟩
  rw[FS];exact h
 ·rintro i acc σ H' ⟨sm,_⟩
  exact hl _ sm
 ·rintro i x acc σ H' hx ⟨sm,rfl,hi,hS⟩
  have hlt:i<as.length:=by have:=(FQ.mp hx).1;rwa [FS]at this
  rw[FU,FP hlt]at hx
  cases hx
  have hg:as[i]?=some as[i]:=FP hlt
  refine hs i as[i] hg σ H' (fun v σ2 H5=>_) (fun σ2 H4=>_) hS sm (fun v σ2 H2 hf s2 hS2=>⟨s2,?_,hlt,hS2⟩) (fun σ2 H2 hf s2 hS2=>⟨s2,?_,hlt,hS2⟩)
  ·rw[uC hg,hf];rfl
  ·rw[uC hg,hf];simp
 ·rintro acc σ H' ⟨sm,rfl,_⟩
  have e:(as.take (as.map emb).length).filterMap f=as.filterMap f:=by rw[FS,Gv]
  rw[e];exact he _ sm
theorem fD{n:Nat}{f:Nat->Option V}(S:St->Prop)(h0:S σ)(hn:n<=1000000)
  (hs:∀i,i<n->∀σ H' (N1:V->St->Hp->Prop) (N0:St->Hp->Prop),S σ->aq H H'->(∀v σ2 H2,f i=some v->aq H H2->S σ2->N1 v σ2 H2)->(∀σ2 H2,f i=none->aq H H2->S σ2->N0 σ2 H2) ->
   g (.int (0+(i:Int))) σ H' fun σ2 H3=>ti σ2 H3 fun b H4=>if b=true then te σ2 H4 fun v H5=>N1 v σ2 H5 else N0 σ2 H4)
  (he:∀H',aq H H'->Q ((List.range n).filterMap f) H'):jd (yL 0 n) g ti te σ H Q:=by
 refine jD (lo:=0) (n:=n) (fun i acc σ H'=>aq H H'/\acc=(List.range i).filterMap f/\i<=n/\S σ) ⟨fun _ _ e=>e,rfl,Gd _,h0⟩ ?_ ?_ ?_ ?_
 ·rintro i acc σ H' ⟨_,rfl,hi,_⟩
  have:=List.length_filterMap_le f (List.range i)
  rw[List.length_range]at this
  exact bw (by omega)
 ·rintro i acc σ H' ⟨_,_,h,_⟩
  exact h
 ·rintro i acc σ H' hi ⟨sm,rfl,_,hS⟩
  refine hs i hi σ H' (fun v σ2 H5=>_) (fun σ2 H4=>_) hS sm (fun v σ2 H2 hf s2 hS2=>⟨s2,?_,hi,hS2⟩) (fun σ2 H2 hf s2 hS2=>⟨s2,?_,hi,hS2⟩)
  ·rw[List.range_succ,List.filterMap_append];simp[hf]
  ·rw[List.range_succ,List.filterMap_append];simp[hf]
 ·rintro acc σ H' ⟨sm,rfl,_⟩
  exact he _ sm
end
section
variable {X:Cx}
end
end L2
namespace ThM
open PySem L2
def cw(ks:List Str)(z:Str):List Str:=if z∈ks then ks else ks++[z]
theorem mem_addNew{ks:List Str}{z y:Str}:y∈cw ks z↔y∈ks\/y=z:=by
 unfold cw
 split
 ·rename_i h
  exact⟨.inl,fun q=>q.elim id fun e=>e▸h⟩
 ·rw[F4,FT]
section
variable {α:Type}(f:List α->List α)
def Db:Nat->List α->List α
 |0,s=>s
 |n+1,s=>f (Db n s)
variable {f}
end
abbrev NR:=Str×List Str
def zH(ks:List Str)(r:NR):List Str:=if(∀z∈r.2,z∈ks) then cw ks r.1 else ks
def xE(rs:List NR)(ks:List Str):List Str:=rs.foldl zH ks
theorem nd_len{ks ms:List Str}(hn:ks.Nodup)(h:∀z∈ks,z∈ms):ks.length<=ms.length:=by
 induction ks generalizing ms with
 |nil=>exact Gd _
 |cons k ks ih=>
  rw[List.nodup_cons]at hn
  have hk:=h k List.mem_cons_self
  have h1:=ih (ms:=ms.erase k) hn.2 fun z hz=>by
   have hne:z≠k:=fun e=>hn.1 (e▸hz)
   exact(List.mem_erase_of_ne hne).mpr (h z (F7 _ hz))
  have h2:=List.length_erase_of_mem hk
  have h3:=List.length_pos_of_mem hk
  rw[F2]
  omega
def AA(rs:List NR):List Str:=Db (xE rs) rs.length []
end ThM
namespace L2
open PySem PySem.Spec PyProof.Rows QL
section
variable {X:Cx}
end
end L2
namespace ThM
open PySem L2
section
variable {α:Type}{f:List α->List α}(μ:List α->Nat)
end
theorem jU{y:Str}:∀(zs ks:List Str),y∈zs.foldl cw ks↔y∈ks\/y∈zs
 | [],ks=>by simp
 |z::zs,ks=>by
  rw[List.foldl_cons,jU zs,mem_addNew,F6]
  exact⟨fun h=>h.elim (fun h=>h.elim .inl fun e=>.inr (.inl e)) fun h=>.inr (.inr h),fun h=>h.elim (fun h=>.inl (.inl h)) fun h=>h.elim (fun e=>.inl (.inr e)) .inr⟩
def xq(ks:List Str)(r:NR):List Str:=if r.1∈ks then r.2.foldl cw ks else ks
def wb(rs:List NR)(ks:List Str):List Str:=rs.foldl xq ks
def BR(ks:List Str)(r:NR):Prop:=r.1∈ks/\∀z∈r.2,z∈ks
instance (ks:List Str)(r:NR):Decidable (BR ks r):=by unfold BR;infer_instance
def AE(st:Str)(rs:List NR):List Str:=Db (wb rs) rs.length [st]
def Ac(rs:List NR)(r:NR):Bool:=decide (∀z∈r.2,z∈AA rs)
def Do(rs:List NR):List NR:=rs.filter (Ac rs)
def Cr(st:Str)(rs:List NR):List Str:=AE st (Do rs)
def keep(st:Str)(rs:List NR)(r:NR):Bool:=decide (r.1∈Cr st rs)&&Ac rs r
end ThM
namespace L2
open PySem PySem.Spec PyProof.Rows
section
variable {X:Cx}{body:List Stmt}{h₀:ExceptHandler}{hs:List ExceptHandler}{tb:TS}{pos:Pos}
theorem yJ{es' es:List Expr}{x1:Nat}{p:Pos}{te:TE}{t:TA}(ha:PE X (.Tuple es' x1 p) te)(hr:PA X es t):PA X (.Tuple es' x1 p::es) (j9 te t):=aa ha hr rfl
theorem vM{a b:Expr}{p:Pos}{t:Option Expr}{l:Nat}{env:Env}:swapsWith (.Subscript a b p) t l env=pure false:=rfl
def qN(xs ys:List V):Bool:=(List.range (min xs.length ys.length)).all (fun j=>match xs[j]?,ys[j]? with | some x,some y=>sH x y | _,_=>true)&&xs.length==ys.length
def BW(K:PySem.W.Frag):R2:=fun x y H Q=>∃a b xs ys,x=.ref a/\y=.ref b/\bq K H a xs/\bq K H b ys/\xs.all oK=true/\ys.all oK=true/\Q (.bl (qN xs ys)) H
theorem x8(hu:X.A.units+64<cLine):jN X (compareOp .Eq) (BW X.K):=by
 intro pins s σ H x y v u Q I rx ry h
 obtain⟨a,b,xs,ys,rfl,rfl,ha,hb,fx,fy,q⟩:=h
 cases rx;cases ry
 obtain⟨its,ra,pa,_⟩:=I.tuple ha
 obtain⟨its2,rb,pb,_⟩:=I.tuple hb
 have l1:=ra.length;have l2:=rb.length
 have q':=SeqAt.RcAt.tuples (A:=X.A) (s:=s) (e:=fun j=>match xs[j]?,ys[j]? with | some x,some y=>sH x y | _,_=>true) (show s.heap.IsTuple a its.toArray from pa) (show s.heap.IsTuple b its2.toArray from pb) (by omega) (fun j g1 g2=>by
  have g1':j<its.length:=by simpa using g1
  have g2':j<its2.length:=by simpa using g2
  have x1:xs[j]?=some xs[j]:=FP (by omega)
  have y1:ys[j]?=some ys[j]:=FP (by omega)
  obtain⟨w1,f1,rr1⟩:=ra.get x1
  obtain⟨w2,f2,rr2⟩:=rb.get y1
  rw[FP g1']at f1
  rw[FP g2']at f2
  cases f1;cases f2
  simp only[GD,x1,y1]
  exact gp rr1 rr2 (GB.mp fx _ (FV x1)) (GB.mp fy _ (FV y1)))
 refine q' _ _ _ _ ⟨.bl _,H,I,rfl,?_⟩
 rw[FY,FY,<- l1,<- l2]
 exact q
end
section
variable {X:Cx}{es:List Expr}{t:TA}{te:TE}
structure WA(X:Cx)(es:List Expr)(t:TA):Prop where
 out:PA X es t
structure WE(X:Cx)(e:Expr)(t:TE):Prop where
 out:PE X e t
structure WB(X:Cx)(b:List Stmt)(t:TS):Prop where
 out:qV X b t
theorem tJ:WA X [] qK:=⟨ae⟩
theorem zO{x:Str}{j:Nat}{p:Pos}(hr:WA X es t):WA X (.Constant (.str x) j p::es) (j9 (tC (.str x)) t):=⟨bB hr.out⟩
theorem BT{es':List Expr}{x1:Nat}{p:Pos}(ha:WE X (.Tuple es' x1 p) te)(hr:WA X es t):WA X (.Tuple es' x1 p::es) (j9 te t):=⟨yJ ha.out hr.out⟩
theorem yv{x1:Nat}{p:Pos}(h:WA X es t):WE X (.Tuple es x1 p) (AB t):=⟨aW h.out⟩
theorem As{p:Pos}(h:WA X es t):WE X (.List es p) (y4 t):=⟨bf h.out⟩
structure WS(X:Cx)(s:Stmt)(t:TS):Prop where
 out:PS X s t
theorem AJ{i:Nat}{x:Str}{b:Expr}{tb:TE}{pos pos' p lp:Pos}(hN:X.N.Nodup)(hi:X.N[i]?=some x)(hx:Bl X.env.scope x)(he:WE X (.List es lp) te)(hb:PE X b tb)(hs:uL b)(hf:X.fn x=true\/X.env.scope.names.lookup x=some .local:=by first | exact .inl rfl | exact .inr rfl | assumption):WS X (.Assign [.Name x pos'] (.Subscript (.List es lp) b p) pos) (xO (AR (wH X.K) te tb) (bZ i)):=⟨ay hN hi hx (aC bc he.out hb hs) vM hf⟩
theorem y9{st:Stmt}{bh:List Stmt}{u v:TS}(h1:WS X st u)(h2:qV X bh v):WB X (st::bh) (tM u v):=⟨af h1.out h2⟩
theorem vO{st:Stmt}{bh:List Stmt}{u v:TS}(h1:PS X st u)(h2:WB X bh v):qV X (st::bh) (tM u v):=af h1 h2.out
end
end L2
namespace L2
open PySem PySem.Spec PyProof.Rows QL
section
variable {X:Cx}
end
end L2
namespace PySem
open PySem.Calls PyProof.Rows
section
variable {prog:Program}{w:World}{A:Around}{E:Value->Shared->Prop}{env:Env}
variable {nm q:Str}{C N:Addr}{bs bm:List Value}{hdct:Bool}{sn:List Str}{sub:List Value}{ab:Bool}{col:Option Bool}{dd:Option Addr}{k0 k1 k2 k3 k5:Option Value}{newId:String}
variable {bmB bmN:List Value}{B Bn nid initId inN:String}{K:PySem.W.Frag}
end
section
variable {cp:Value->Prop}{M:Model}{A:Around}{E:Value->Shared->Prop}{s:Shared}{base:Heap}{env:Env}{outer:List Env}{L e:Addr}{Q:Unit->Shared->Prop}
end
end PySem
namespace L2
open PySem PySem.Spec PyProof.Rows
section
variable {P:Program}{w:World}{K:PySem.W.Frag}{mg:Str->Option Value}{base:Heap}{N:List Str}{qual:Str}{scope:Scope}{f:Addr}{cd:Value}{A:Around}{outer:List Env}{s:Shared}{H:Hp}{E E1:XK}{CX:jH}
end
section
variable {X:Cx}{e e₀:Expr}{bh:List Expr}{tx:TX}{t:TA}{x y:Str}{C D:Addr}{bmD:List Value}{nD:String}{rpos pos pos2 hpos np np2 cpos npos:Pos}{kd:Nat}{E:XK}
end
end L2
namespace PySem
open PySem.Calls PyProof.Rows
section
variable {prog:Program}{w:World}{A:Around}{E:Value->Shared->Prop}{env:Env}
variable {nm q:Str}{C N:Addr}{bs bm bmB bmN:List Value}{hdct:Bool}{sn:List Str}{sub:List Value}{ab:Bool}{col:Option Bool}{dd:Option Addr}{k0 k1 k2 k3 k5:Option Value}{newId B Bn nid initId inN:String}{K:PySem.W.Frag}
end
end PySem
namespace L2
open PySem PySem.Spec PyProof.Rows
section
variable {P:Program}{w:World}{K:PySem.W.Frag}{mg:Str->Option Value}{base:Heap}{N:List Str}{qual:Str}{scope:Scope}{f:Addr}{cd:Value}{A:Around}{outer:List Env}{s:Shared}{H:Hp}{E E1:XK}
end
structure BG(k:Nat)(A:Around):Prop where
 dp:A.depth+3*k+5<recursionLimit
 un:A.units+16*k+200<cLine
structure Bv(P:Program)(w:World)(K:PySem.W.Frag)(mg:Str->Option Value)(base:Heap)(CX:jH)(k:Nat)(f:Addr)(fd:FuncData)(ps:List Str)(sp:Sp):Prop where
 len:∀vs H Q E,sp vs H Q E->vs.length=ps.length
 run:∀(A:Around) (outer:List Env) (s:Shared) (H:Hp) (args:Args) (us:List Value) (vs:List V) (Q:VK) (E:XK),BG k A->rJ P w K mg base A outer s H->BindsTo s fd args (ps.zip us)->aS vs us->sp vs H Q E ->
  codeAny (model P w) A (.call (.ref f) args) (CR CX outer P w H s Q E) s
structure FM(P:Program)(w:World)(K:PySem.W.Frag)(mg:Str->Option Value)(base:Heap)(k:Nat)(C:Addr)(fn:Str):Prop where
 ex:∃(bm bmN:List Value) (newId Bn inN B nid initId:String) (fI:Addr) (fd:FuncData) (ps:List Str),vL K C bm newId/\ExcBaseFacts Bn newId inN bmN/\bm.contains (.type Bn)=true/\ExcBaseFacts B nid initId bm /\
  PySem.W.findIn K (.ref C) "__init__"=some (some (.ref fI))/\PySem.W.typeIn K (.ref fI)=some (.type "function")/\Bv P w K mg base bL k fI fd ps (jP C fn)/\dq K fd ps []
section
variable {X:Cx}{e e₀:Expr}{tx:TX}{t:TA}{x y:Str}{C D:Addr}{fn:Str}{k:Nat}{bmD:List Value}{nD:String}{rpos pos pos2 hpos np np2 cpos npos:Pos}{kd:Nat}{E:XK}
end
end L2
namespace PySem
section
variable {cp:Value->Prop}{M:Model}{A:Around}{E:Value->Shared->Prop}{s:Shared}{base:Heap}{env:Env}{outer:List Env}{L e:Addr}{Q:Unit->Shared->Prop}
end
end PySem
namespace L2
open PySem PySem.Spec PyProof.Rows
section
variable {P:Program}{w:World}{K:PySem.W.Frag}{mg:Str->Option Value}{base:Heap}{N:List Str}{qual:Str}{scope:Scope}{f:Addr}{cd:Value}{A:Around}{outer:List Env}{s:Shared}{H:Hp}{E E1:XK}
end
section
variable {X:Cx}
end
section
variable {P:Program}{w:World}{K:PySem.W.Frag}{mg:Str->Option Value}{base:Heap}{N:List Str}{qual:Str}{scope:Scope}{f:Addr}{cd:Value}{A:Around}{outer:List Env}{s:Shared}{H:Hp}{E E1:XK}
end
open QL
section
variable {X:Cx}
def uA:V->List V->Hp->VK->Prop:=fun x xs H Q=>∃z c,x=.str (tx z)/\xs=[.str ⟨#[c]⟩]/\z.length<=90000/\∀p,H p=none->Q (.ref p) (ap H p (.lst (az (SpM.parts c z))))
theorem vB:AF X "str.split" uA:=by
 intro pins s σ H x xs v us Q I rx rv h
 obtain⟨z,c,rfl,rfl,hz,q⟩:=h
 obtain⟨t,rfl⟩:=rx
 obtain⟨u,rfl,ru⟩:=rv.one
 obtain⟨t',rfl⟩:=ru
 refine sO (by rfl) (fun l k hl=>?_) (by rw[aA];exact ak (by omega))
 have hfr:H s.heap.objs.size=none:=I.hok.fresh (Gc _)
 have hv:=oY l
 rw[hl,lU]at hv
 have hlen:(az (SpM.parts c z)).length<=sizeLine:=by
  have e:=fact_split (tx z) ⟨#[c]⟩
  rw[<- lU,FS]
  have e2:=e.2
  rw[aA]at e2
  exact ak (by omega)
 refine⟨.ref s.heap.objs.size,ap H s.heap.objs.size (.lst (az (SpM.parts c z))),I.laid (t':=k) (fun b u e=>FR _ e) (Gc _) ⟨hlen,_,0,hv,FX _ rfl⟩,rfl,q _ hfr⟩
end
section
variable {prog:Program}{w:World}{A:Around}{E:Value->Shared->Prop}{s:Shared}
end
section
variable {X:Cx}{e:Expr}{t:TE}{p p2 pos pos2:Pos}
end
end L2
namespace L2
open PySem PySem.Spec PyProof.Rows QL
section
variable {X:Cx}
def zT:V->List V->Hp->VK->Prop:=fun x xs H Q=>∃z y,x=.str z/\xs=[.str y]/\∀i:Int,Q (.int i) H
theorem zf:AF X "str.find" zT:=by
 intro pins s σ H x xs v us Q I rx rv h
 obtain⟨z,y,rfl,rfl,q⟩:=h
 obtain⟨t,rfl⟩:=rx
 obtain⟨u,rfl,ru⟩:=rv.one
 obtain⟨t',rfl⟩:=ru
 exact SC.find ⟨.int _,H,I.tok _,⟨_,rfl⟩,q _⟩
end
theorem aq.sqT{K:PySem.W.Frag}{H H':Hp}{a:Addr}{xs:List V}(e:aq H H')(h:bq K H a xs):bq K H' a xs:=by
 rcases h with(h | ⟨o,h⟩) | h
 ·exact .inl (.inl (e _ _ h))
 ·exact .inl (.inr ⟨o,e _ _ h⟩)
 ·exact .inr h
mutual
theorem gD.up{K:PySem.W.Frag}{H H':Hp}(e:aq H H'):∀(d:Dt) {v:V},gD K H d v->gD K H' d v
 | .non,v,h=>by unfold gD at h ⊢;exact h
 | .bl b,v,h=>by unfold gD at h ⊢;exact h
 | .int i,v,h=>by unfold gD at h ⊢;exact h
 | .str x,v,h=>by unfold gD at h ⊢;exact h
 | .lst ds,v,h=>by unfold gD at h ⊢;obtain⟨a,xs,r,hs,hd⟩:=h;exact⟨a,xs,r,e.seq hs,cT.up e ds hd⟩
 | .tup ds,v,h=>by unfold gD at h ⊢;obtain⟨a,xs,r,hs,hd⟩:=h;exact⟨a,xs,r,e.sqT hs,cT.up e ds hd⟩
theorem cT.up{K:PySem.W.Frag}{H H':Hp}(e:aq H H'):∀(ds:List Dt) {xs:List V},cT K H ds xs->cT K H' ds xs
 | [],xs,h=>by unfold cT at h ⊢;exact h
 |d::ds,xs,h=>by unfold cT at h ⊢;obtain⟨x,r,e0,h1,h2⟩:=h;exact⟨x,r,e0,gD.up e d h1,cT.up e ds h2⟩
end
section
variable {K:PySem.W.Frag}{g:TG}{tb:TS}{D:ip}{σ:St}{H:Hp}
theorem yc{a:Addr}{xs:List V}(Pv:Nat->St->Hp->Prop)(h0:Pv 0 σ H)(hl:∀i σ H,i<=xs.length->Pv i σ H->aT K H a xs)
  (hs:∀i x σ H,i<xs.length->xs[xs.length-1-i]?=some x->Pv i σ H->g x σ H fun σ2 H2=>tb {D with nx:=Pv (i+1),ct:=Pv (i+1),bk:=D.nx} σ2 H2) (hd:∀σ H,Pv xs.length σ H->D.nx σ H):uq (Cv K a xs.length) g tb D σ H:=by
 refine⟨fun i m σ H=>Pv i σ H/\i<=xs.length/\m=xs.length+1-i,⟨_,h0,Gd _,rfl⟩,?_⟩
 rintro i m σ' H' ⟨w,hi,rfl⟩
 rcases Nat.lt_or_ge i xs.length with hlt | hge
 ·refine .inr ⟨⟨xs,xs[xs.length-1-i]'(by omega),hl _ _ _ hi w,hlt,FP (by omega)⟩,Pv (i+1),fun σ2 H2 w2=>⟨xs.length+1-(i+1),by omega,w2,hlt,rfl⟩,fun x H2 y=>?_⟩
  obtain⟨rfl,hx⟩:=y
  exact hs i x σ' H2 hlt (hx xs (hl _ _ _ hi w)) w
 ·have e:i=xs.length:=by omega
  subst e
  exact .inl ⟨rfl,hd _ _ w⟩
end
def bp(H H':Hp):Prop:=∀b xs,H b=some (.tup xs)->H' b=some (.tup xs)
theorem bp.of{H H':Hp}(s:aq H H'):bp H H':=fun b xs h=>s b _ h
theorem bp.trans{H H1 H2:Hp}(a:bp H H1)(b:bp H1 H2):bp H H2:=fun c xs h=>b c xs (a c xs h)
theorem bp.put{H:Hp}{l:Addr}{xs:List V}{o:HO}(h:H l=some (.lst xs)):bp H (ap H l o):=fun b ys hb=>by
 rw[aj (fun e=>by rw[e,h]at hb;cases hb)];exact hb
mutual
def aZ(H:Hp):Dt->V->Prop
 | .int i,v=>v=.int i
 | .tup ds,v=>∃a xs,v=.ref a/\H a=some (.tup xs)/\aD H ds xs
 |_,_=>False
def aD(H:Hp):List Dt->List V->Prop
 | [],xs=>xs=[]
 |d::ds,xs=>∃x r,xs=x::r/\aZ H d x/\aD H ds r
end
mutual
theorem aZ.up{H H':Hp}(e:bp H H'):∀(d:Dt) {v:V},aZ H d v->aZ H' d v
 | .int i,v,h=>by unfold aZ at h ⊢;exact h
 | .tup ds,v,h=>by unfold aZ at h ⊢;obtain⟨a,xs,r,hs,hd⟩:=h;exact⟨a,xs,r,e _ _ hs,aD.up e ds hd⟩
 | .non,v,h=>by unfold aZ at h;exact h.elim
 | .bl b,v,h=>by unfold aZ at h;exact h.elim
 | .str x,v,h=>by unfold aZ at h;exact h.elim
 | .lst ds,v,h=>by unfold aZ at h;exact h.elim
theorem aD.up{H H':Hp}(e:bp H H'):∀(ds:List Dt) {xs:List V},aD H ds xs->aD H' ds xs
 | [],xs,h=>by unfold aD at h ⊢;exact h
 |d::ds,xs,h=>by unfold aD at h ⊢;obtain⟨x,r,e0,h1,h2⟩:=h;exact⟨x,r,e0,aZ.up e d h1,aD.up e ds h2⟩
end
mutual
theorem aZ.rd{K:PySem.W.Frag}{H:Hp}:∀(d:Dt) {v:V},aZ H d v->gD K H d v
 | .int i,v,h=>by unfold aZ at h;unfold gD;exact h
 | .tup ds,v,h=>by unfold aZ at h;unfold gD;obtain⟨a,xs,r,hs,hd⟩:=h;exact⟨a,xs,r,bq.of hs,aD.rd ds hd⟩
 | .non,v,h=>by unfold aZ at h;exact h.elim
 | .bl b,v,h=>by unfold aZ at h;exact h.elim
 | .str x,v,h=>by unfold aZ at h;exact h.elim
 | .lst ds,v,h=>by unfold aZ at h;exact h.elim
theorem aD.rd{K:PySem.W.Frag}{H:Hp}:∀(ds:List Dt) {xs:List V},aD H ds xs->cT K H ds xs
 | [],xs,h=>by unfold aD at h;unfold cT;exact h
 |d::ds,xs,h=>by unfold aD at h;unfold cT;obtain⟨x,r,e0,h1,h2⟩:=h;exact⟨x,r,e0,aZ.rd d h1,aD.rd ds h2⟩
end
theorem aD.cons{H:Hp}{d:Dt}{ds:List Dt}{x:V}{xs:List V}(h:aZ H d x)(t:aD H ds xs):aD H (d::ds) (x::xs):=by unfold aD;exact⟨x,xs,rfl,h,t⟩
theorem aD.nil{H:Hp}:aD H [] []:=by unfold aD;rfl
theorem aD.uncons{H:Hp}{d:Dt}{ds:List Dt}{xs:List V}(h:aD H (d::ds) xs):∃x r,xs=x::r/\aZ H d x/\aD H ds r:=by unfold aD at h;exact h
theorem aD.length{H:Hp}:∀{ds:List Dt} {xs:List V},aD H ds xs->xs.length=ds.length
 | [],_,h=>by unfold aD at h;rw[h];rfl
 |d::ds,xs,h=>by
  obtain⟨x,r,rfl,_,h2⟩:=h.uncons
  simp[aD.length h2]
theorem aD.app{H:Hp}:∀{ds es:List Dt} {xs ys:List V},aD H ds xs->aD H es ys->aD H (ds++es) (xs++ys)
 | [],es,xs,ys,h,k=>by unfold aD at h;subst h;exact k
 |d::ds,es,xs,ys,h,k=>by
  obtain⟨x,r,rfl,h1,h2⟩:=h.uncons
  exact aD.cons h1 (aD.app h2 k)
theorem aZ.node{H:Hp}{a:Addr}{i:Int}{ds:List Dt}{xs:List V}(h:H a=some (.tup (V.int i::xs)))(t:aD H ds xs):aZ H (.tup (.int i::ds)) (.ref a):=by
 unfold aZ
 exact⟨a,_,rfl,h,aD.cons (by unfold aZ;rfl) t⟩
def bO(np:Nat->Nat):List Nat->List Dt
 | []=>[]
 |n::ns=>.tup (.int (n:Int)::(bO np ns).take (np n))::(bO np ns).drop (np n)
def wP(np:Nat->Nat):List Nat->Prop
 | []=>True
 |n::ns=>wP np ns/\np n<=(bO np ns).length
theorem r8{np:Nat->Nat}{n:Nat}{ns:List Nat}:(bO np (n::ns)).length=(bO np ns).length-np n+1:=by
 rw[bO,F2,Gx]
def fe(np:Nat->Nat)(num:Str->Option Nat)(i:Nat)(w:Str)(wt:List Nat):Option (Nat×List Nat):=
 match num w,wt.getLast? with
 |some n,some d=>if 200<=i\/60<d then none else some (n,wt.dropLast++List.replicate (np n) (d+1))
 |_,_=>none
def jM(np:Nat->Nat)(num:Str->Option Nat):Nat->List Str->List Nat->Nat ⊕ List Nat
 |i,[],wt=>if wt=[] then .inr [] else .inl i
 |i,w::ws,wt=>match fe np num i w wt with
  |none=>.inl i
  |some (n,wt')=>match jM np num (i+1) ws wt' with
   | .inl j=>.inl j
   | .inr ns=>.inr (n::ns)
def ik(ns:List Nat):Nat ⊕ List Nat->Nat ⊕ List Nat
 | .inl j=>.inl j
 | .inr ms=>.inr (ns++ms)
section
variable {np:Nat->Nat}{num:Str->Option Nat}
theorem xN(ws:List Str):jM np num 0 ws [1]=ik [] (jM np num 0 (ws.drop 0) [1]):=by
 rw[GL]
 cases jM np num 0 ws [1]<;>rfl
theorem AX{ws:List Str}{i:Nat}{w:Str}{ns wt:List Nat}{r:Nat ⊕ List Nat}(h:r=ik ns (jM np num i (ws.drop i) wt))(hw:ws[i]?=some w)(hs:fe np num i w wt=none):r=.inl i:=by
 have hi:=(FQ.mp hw).1
 have he:=(FQ.mp hw).2
 rw[List.drop_eq_getElem_cons hi,he,jM,hs]at h
 exact h
theorem km{ws:List Str}{i n:Nat}{w:Str}{ns wt wt':List Nat}{r:Nat ⊕ List Nat}(h:r=ik ns (jM np num i (ws.drop i) wt))(hw:ws[i]?=some w)(hs:fe np num i w wt=some (n,wt')):r=ik (ns++[n]) (jM np num (i+1) (ws.drop (i+1)) wt'):=by
 have hi:=(FQ.mp hw).1
 have he:=(FQ.mp hw).2
 rw[List.drop_eq_getElem_cons hi,he,jM,hs]at h
 rw[h]
 simp only[]
 cases jM np num (i+1) (ws.drop (i+1)) wt' with
 |inl j=>rfl
 |inr ms=>simp[ik]
theorem A3{ws:List Str}{ns wt:List Nat}{r:Nat ⊕ List Nat}(h:r=ik ns (jM np num ws.length (ws.drop ws.length) wt)):(wt=[]->r=.inr ns)/\(wt≠[]->r=.inl ws.length):=by
 rw[List.drop_length,jM]at h
 constructor
 ·intro e;rw[if_pos e]at h;rw[h,ik,Gq]
 ·intro e;rw[if_neg e]at h;exact h
theorem vn{i n:Nat}{w:Str}{wt wt':List Nat}(h:fe np num i w wt=some (n,wt')):num w=some n/\i<200/\∃d,wt.getLast?=some d/\d<=60/\wt'=wt.dropLast++List.replicate (np n) (d+1):=by
 unfold fe at h
 cases e1:num w with
 |none=>rw[e1]at h;simp at h
 |some m=>
  cases e2:wt.getLast? with
  |none=>rw[e1,e2]at h;simp at h
  |some d=>
   rw[e1,e2]at h
   simp only[]at h
   by_cases hc:200<=i\/60<d
   ·rw[if_pos hc]at h;cases h
   ·rw[if_neg hc]at h
    cases h
    exact⟨rfl,by omega,d,rfl,by omega,rfl⟩
theorem uG:∀(ws:List Str) (i:Nat) (wt ns:List Nat),jM np num i ws wt=.inr ns->ns.length=ws.length/\(∀(j:Nat) (w:Str) (n:Nat),ws[j]?=some w->ns[j]?=some n->num w=some n)/\wP np ns/\(bO np ns).length=wt.length/\(ns=[]\/i+ns.length<=200)
 | [],i,wt,ns,h=>by
  rw[jM]at h
  by_cases e:wt=[]
  ·rw[if_pos e]at h
   cases h
   subst e
   exact⟨rfl,fun j w n hw=>by simp at hw,trivial,rfl,.inl rfl⟩
  ·rw[if_neg e]at h;cases h
 |w::ws,i,wt,ns,h=>by
  rw[jM]at h
  cases hs:fe np num i w wt with
  |none=>rw[hs]at h;cases h
  |some p=>
   obtain⟨n,wt'⟩:=p
   rw[hs]at h
   simp only[]at h
   cases hg:jM np num (i+1) ws wt' with
   |inl j=>rw[hg]at h;cases h
   |inr ms=>
    rw[hg]at h
    cases h
    obtain⟨h1,h2,h3,h4,h5⟩:=uG ws (i+1) wt' ms hg
    obtain⟨k1,k2,d,k3,k4,k5⟩:=vn hs
    have hne:wt≠[]:=fun e=>by rw[e]at k3;simp at k3
    have hpos:0<wt.length:=List.length_pos_iff.mpr hne
    have hl:wt'.length=wt.length-1+np n:=by rw[k5,Gb,List.length_dropLast,List.length_replicate]
    refine⟨by simp[h1],fun j w' n' e1 e2=>?_,⟨h3,by omega⟩,by rw[r8];omega,.inr ?_⟩
    ·cases j with
     |zero=>simp at e1 e2;subst e1;subst e2;exact k1
     |succ j=>exact h2 j w' n' (by simpa using e1) (by simpa using e2)
    ·rcases h5 with rfl | h5
     ·simp;omega
     ·rw[F2];omega
end
theorem nq:∀{ns:List Int} {us:List Value},aS (ns.map V.int) us->∃ps:List (Int×Tok),us.toArray=intItems ps.toArray/\ps.map (·.1)=ns
 | [],us,r=>⟨[],by have:=r.zero;subst this;simp[intItems],rfl⟩
 |n::ns,us,r=>by
  cases r with
  |cons h t=>
   obtain⟨tk,rfl⟩:=h
   obtain⟨ps,e1,e2⟩:=nq t
   refine⟨(n,tk)::ps,?_,by rw[Gk,e2]⟩
   have:=congrArg Array.toList e1
   unfold intItems at this ⊢
   simp at this ⊢
   exact this
section
variable {X:Cx}
theorem o9(hc:X.calm=true):fu X (.builtin "sum") (fun xs H Q=>∃(p:Addr) (ns:List Int),xs=[.ref p]/\aT X.K H p (ns.map V.int)/\Q (.int ns.sum) H):=by
 intro pins s σ H xs us Q I r h
 obtain⟨p,ns,rfl,hs,q⟩:=h
 obtain⟨u,rfl,ru⟩:=r.one
 cases ru
 obtain⟨its,rv,pl,_⟩:=I.list hs
 obtain⟨ps,e1,e2⟩:=nq rv
 refine sum_intListG (xs:=ps.toArray) (I.ok.hd hc) (by rw[<- e1];exact pl.isList) fun h' tk t' hk=>?_
 have e3:preSum (numAt ps.toArray) ps.toArray.size=ns.sum:=by
  rw[preSum_eq,List.take_of_length_le (by simp),<- e2]
 rw[e3]
 exact⟨.int _,H,I.kept (t':=tk) hk,⟨_,rfl⟩,q⟩
theorem xy:bootBuiltins "sum"=some (.builtin "sum"):=by decide +kernel
end
section
variable {prog:Program}{w:World}{A:Around}{R:Result->Shared->Prop}{I:Addr}{fp wr:List Addr}{n:Nat}{P:Nat->Value->Prop}{St:Nat->Heap->Prop}
def mU(val:Nat->Int)(j:Nat)(M:Int):Prop:=(∃i,i<j/\val i=M)/\∀i,i<j->val i<=M
theorem mU.next{val:Nat->Int}{j:Nat}{M:Int}(h:mU val j M):mU val (j+1) (if val j>M then val j else M):=by
 obtain⟨⟨i,hi,e⟩,h2⟩:=h
 by_cases c:val j>M
 ·rw[if_pos c]
  refine⟨⟨j,Gp _,rfl⟩,fun k hk=>?_⟩
  by_cases hk2:k=j
  ·rw[hk2];exact Int.le_refl _
  ·have:=h2 k (by omega);omega
 ·rw[if_neg c]
  refine⟨⟨i,by omega,e⟩,fun k hk=>?_⟩
  by_cases hk2:k=j
  ·rw[hk2];omega
  ·exact h2 k (by omega)
theorem zk(val:Nat->Int):mU val 1 (val 0):=⟨⟨0,by decide,rfl⟩,fun i hi=>by
 have:i=0:=by omega
 rw[this]
 exact Int.le_refl _⟩
set_option maxHeartbeats 2000000 in
theorem xQ(kw:List (Str×Value))(W:Walks prog w A.in1 I fp wr n P St)(val:Nat->Int)(hval:∀i v,P i v->∃t,v=.int (val i) t)(B:Addr)(hB:B∉fp) :
  ∀(m j:Nat) (s:Shared) (M:Int) (t:Tok) (c:Nat),n-j=m->1<=j->j<=n->St j s.heap->mU val j M ->
  s.heap.get? B=some {cls:=.type "list",dict:=none,data:=.seq #[.int M t,.int M t] c,slots:=#[]} ->
  (∀M' t' h' tk,mU val n M'->(∀b o,b∉wr->b≠B->s.heap.get? b=some o->h'.get? b=some o)->R (.ok (.ret (.int M' t'))) {s with heap:=h',toks:=tk}) ->
  codeAny (model prog w) A (.builtin "max.loop" ⟨[.ref I,.none,.ref B],kw⟩) R s:=by
 have hBw:B∉wr:=fun x=>hB (W.sub _ x)
 have nm:(toString "max" ++ toString ".loop":String)="max.loop":=by decide
 have cmp:=CmpOf.ints_gt (prog:=prog) (w:=w) (A:=A.in1) val hval
 intro m
 induction m with
 |zero=>
  intro j s M t c hm h1 hj st h7 eB ok
  have ej:j=n:=by omega
  subst ej
  refine codeAny_builtin F.entry_max_loop ?_
  rw[Around.under_plainId F.plain_max_loop _]
  show wpAny _ A.in1 (seqItems? (.ref B) >>= _) _ _ s
  refine wpAny_bind (wpAny_seqItems eB rfl ?_)
  show wpAny _ A.in1 (tryCatch (pyNext (.ref I)) _ >>= _) _ _ s
  refine wpAny_bind (wpAny_tryCatch (W.done s _ _ st fun h' tk kp=>?_))
  have eB':=kp B _ hBw eB
  show wpAny _ A.in1 (updateSeq B (fun _=>#[]) >>= _) _ _ _
  refine wpAny_bind (wpAny_updateSeq eB' rfl (wpAny_bind (wpAny_letGo (wpAny_pure ?_))))
  exact ok M t _ tk h7 fun b o h1 h2 e=>(FW _ _ (Ne.symm h2)).trans (kp b o h1 e)
 |succ m ih=>
  intro j s M t c hm h1 hj st h7 eB ok
  have hlt:j<n:=by omega
  refine codeAny_builtin F.entry_max_loop ?_
  rw[Around.under_plainId F.plain_max_loop _]
  show wpAny _ A.in1 (seqItems? (.ref B) >>= _) _ _ s
  refine wpAny_bind (wpAny_seqItems eB rfl ?_)
  show wpAny _ A.in1 (tryCatch (pyNext (.ref I)) _ >>= _) _ _ s
  refine wpAny_bind (wpAny_tryCatch (W.item j s _ _ hlt st fun v h' tk hP st' kp=>?_))
  have eB':=kp B _ hBw eB
  obtain⟨t2,rfl⟩:=hval j v hP
  show wpAny _ A.in1 (tryCatch (holding [.int (val j) t2,.int (val j) t2] (richCompare .Gt (.int (val j) t2) (.int M t) >>= _)) _ >>= _) _ _ _
  refine wpAny_bind (wpAny_tryCatch (wpAny_holding (wpAny_bind (richCompare_gives (op:=.Gt) (typeIs_int _ _ t2) (typeIs_int _ _ t) F.slot_int_gt F.entry_int_gt (F.args_int_gt_2 _ _) (gives_int_gt _ _ t2 t) (fun x=>nomatch x) ?_))))
  refine wpAny_bind (wpAny_holding (wpAny_truthy_bool ?_))
  refine wpAny_bind (wpAny_letGo (wpAny_pure ?_))
  have top':=h7.next
  by_cases cc:val j>M
  ·rw[decide_eq_true cc]
   simp only[if_true]
   refine wpAny_bind (wpAny_updateSeq eB' rfl (wpAny_bind (wpAny_letGo ?_)))
   rw[nm]
   rw[if_pos cc]at top'
   refine wpAny_pure ⟨plainId_quiet F.plain_max_loop _,ih (j+1) _ (val j) t2 _ (by omega) (by omega) hlt (W.frame _ _ _ st' fun b hb o e=>?_) top' (F1 _ eB' rfl) fun M' t' h2 tk2 tp kp2=>?_⟩
   ·exact(FW _ _ (fun x:B=b=>hB (by rw[x];exact hb))).trans e
   ·exact ok M' t' h2 tk2 tp fun b o x1 x2 e=>kp2 b o x1 x2 ((FW _ _ (Ne.symm x2)).trans (kp b o x1 e))
  ·rw[decide_eq_false cc]
   simp only[Bool.false_eq_true,if_false]
   refine wpAny_bind (wpAny_letGo ?_)
   rw[nm]
   rw[if_neg cc]at top'
   refine wpAny_pure ⟨plainId_quiet F.plain_max_loop _,ih (j+1) _ M t c (by omega) (by omega) hlt st' top' eB' fun M' t' h2 tk2 tp kp2=>?_⟩
   exact ok M' t' h2 tk2 tp fun b o x1 x2 e=>kp2 b o x1 x2 (kp b o x1 e)
end
section
variable {prog:Program}{w:World}{A:Around}{E:Value->Shared->Prop}{s:Shared}
theorem vS(a d:Value):argsOk "max" ⟨[a],[("default",d)]⟩:=by unfold argsOk;kernel_rfl
set_option maxHeartbeats 2000000 in
theorem lv{l:Addr}{xs:Array (Int×Tok)}{d:Int}{t0:Tok}{Q:Value->Shared->Prop}(hh:A.handled=none)(hl:s.heap.IsList l (intItems xs))
  (ok:∀M t h' tk,(xs.size=0/\M=d)\/(0<xs.size/\mU (numAt xs) xs.size M)->(∀b o,s.heap.get? b=some o->h'.get? b=some o)->Q (.int M t) {s with heap:=h',toks:=tk}) :
  wpAny (model prog w) A (call (.builtin "max") [.ref l] [("default",.int d t0)]) Q E s:=by
 have nm:(toString "max" ++ toString ".loop":String)="max.loop":=by decide
 have sg:∀sig,Manifest.signature? "max"=some sig->Bind.checkArgs "max" sig ⟨[.ref l],[("default",.int d t0)]⟩=pure ():=fun sig e=>by
  have a:=vS (.ref l) (.int d t0)
  simpa only[argsOk,e]using a
 refine wpAny_call (codeAny_call_builtin F.plain_max F.entry_max ?_)
 have body:wpAny (model prog w) A.in1 (Builtin.«max» ⟨[.ref l],[("default",.int d t0)]⟩) (fun fin s'=>match fin with
   | .done f=>(match(Except.ok f:Result) with | .ok (.ret v)=>Q v s' | .ok _=>False | .error e=>E e s')
   | .again c'=>c'.quiet=true/\codeAny (model prog w) A c' (fun r s'=>match r with | .ok (.ret v)=>Q v s' | .ok _=>False | .error e=>E e s') s') E s:=by
  show wpAny _ A.in1 (Builtin.Builtins.bindParams "max" ["key","default"] 0 ⟨[],[("default",.int d t0)]⟩ >>= _) _ _ s
  refine wpAny_bind (wpAny_of_eq (show Builtin.Builtins.bindParams "max" ["key","default"] 0 ⟨[],[("default",.int d t0)]⟩=pure [none,some (.int d t0)] from rfl) ?_)
  refine wpAny_bind (wpAny_pure ?_)
  refine wpAny_bind (iter_intList hl fun s2 e st hfp hlI=>?_)
  refine wpAny_bind (wpAny_newObj_type ?_)
  rw[nm]
  have hBf:s2.heap.objs.size∉[s.heap.objs.size,l]:=fun x=>Go _ (hfp _ x)
  have W:=Walks.list (prog:=prog) (w:=w) (A:=A.in1) hh s.heap.objs.size l hlI (intItems xs)
  have hBw:s2.heap.objs.size∉[s.heap.objs.size]:=fun x=>hBf (W.sub _ x)
  refine wpAny_pure ⟨plainId_quiet F.plain_max_loop _,?_⟩
  have st2:=W.frame 0 _ (s2.heap.push {cls:=.type "list",dict:=none,data:=.seq #[] 0}) st fun b _ o e=>FR _ e
  have keep0:∀b o,s.heap.get? b=some o->s2.heap.get? b=some o:=fun b o eo=>by rw[e];exact FR _ eo
  have new0:∀b o,s.heap.get? b=some o->b∉[s.heap.objs.size]/\b≠s2.heap.objs.size:=fun b o eo=>by
   have h1:=Gg eo
   have h2:=Gg (keep0 b o eo)
   exact⟨fun x=>Go _ (FT.mp x▸h1),F_ h2⟩
  have eB:(s2.heap.push {cls:=.type "list",dict:=none,data:=.seq #[] 0}).get? s2.heap.objs.size=some {cls:=.type "list",dict:=none,data:=.seq #[] 0,slots:=#[]}:=FX _ rfl
  have eS:∀(h':Heap) (tk:Nat),({s2 with heap:=h',toks:=tk}:Shared)={s with heap:=h',toks:=tk}:=fun h' tk=>by rw[e]
  refine codeAny_builtin F.entry_max_loop ?_
  rw[Around.under_plainId F.plain_max_loop _]
  show wpAny _ A.in1 (seqItems? (.ref s2.heap.objs.size) >>= _) _ _ _
  refine wpAny_bind (wpAny_seqItems eB rfl ?_)
  show wpAny _ A.in1 (tryCatch (pyNext (.ref s.heap.objs.size)) _ >>= _) _ _ _
  by_cases hz:xs.size=0
  ·have hz2:(intItems xs).size=0:=by unfold intItems;rw[Array.size_map];exact hz
   refine wpAny_bind (wpAny_tryCatch (W.done _ _ _ (by rw[hz2];exact st2) fun h' tk kp=>?_))
   show wpAny _ A.in1 (rule _ >>= _) _ _ _
   refine wpAny_bind (wpAny_rule (wpAny_pure ?_))
   have:=ok d t0 h' tk (.inl ⟨hz,rfl⟩) fun b o eo=>kp b o (new0 b o eo).1 (FR _ (keep0 b o eo))
   rw[<- eS]at this
   exact this
  ·have hlt:0<(intItems xs).size:=by unfold intItems;rw[Array.size_map];omega
   refine wpAny_bind (wpAny_tryCatch (W.item 0 _ _ _ hlt st2 fun v h' tk hP st' kp=>?_))
   have eB':=kp s2.heap.objs.size _ hBw eB
   obtain⟨t2,rfl⟩:=intItems_at hP
   show wpAny _ A.in1 (updateSeq s2.heap.objs.size (fun _=>#[.int (numAt xs 0) t2,.int (numAt xs 0) t2]) >>= _) _ _ _
   refine wpAny_bind (wpAny_updateSeq eB' rfl ?_)
   rw[nm]
   refine wpAny_pure ⟨plainId_quiet F.plain_max_loop _,xQ [("default",.int d t0)] W (numAt xs) (fun _ _=>intItems_at) s2.heap.objs.size hBf _ 1 _ (numAt xs 0) t2 _ rfl (Gc _) hlt (W.frame _ _ _ st' fun b hb o eo=>?_) (zk _) (F1 _ eB' rfl) fun M' t' h2 tk2 tp kp2=>?_⟩
   ·exact(FW _ _ (fun x:s2.heap.objs.size=b=>hBf (by rw[x];exact hb))).trans eo
   ·have sz:(intItems xs).size=xs.size:=by unfold intItems;rw[Array.size_map]
    rw[sz]at tp
    have:=ok M' t' h2 tk2 (.inr ⟨by omega,tp⟩) fun b o eo=>kp2 b o (new0 b o eo).1 (new0 b o eo).2 ((FW _ _ (Ne.symm (new0 b o eo).2)).trans (kp b o (new0 b o eo).1 (FR _ (keep0 b o eo))))
    rw[<- eS]at this
    exact this
 simp only[checkBuiltinCall,F.kind_max]
 cases hs:Manifest.signature? "max" with
 |none=>exact wpAny_pure body
 |some sig=>
  simp only[sg sig hs]
  exact wpAny_pure body
end
def zR(K:PySem.W.Frag)(t:TA)(tk:TA):TE:=fun σ H Q=>t σ H fun xs H1=>tk σ H1 fun ds H2=>∃(p:Addr) (ns:List Int) (d:Int),xs=[.ref p]/\ds=[.int d]/\aT K H2 p (ns.map V.int)/\∀M:Int,(ns=[]/\M=d)\/(M∈ns/\∀a∈ns,a<=M)->Q (.int M) H2
section
variable {X:Cx}{e:Expr}{t tk:TA}{p pos kpos:Pos}{de:Expr}
theorem yS(hc:X.calm=true)(hg:Gl X "max")(hm:X.mg "max"=none)(ha:PA X [e] t)(hk:PK X [⟨some "default",de,kpos⟩] tk)
  (he:backTo pos (starEach [e] X.env)=(false,eval e X.env)::backTo pos (starEach [] X.env):=by rfl) (hpl:(backTo pos (starEach [e] X.env)).any (·.1)=false:=by rfl)
  (hall:(backToKw pos (keywordEach [⟨some "default",de,kpos⟩] X.env)).all (·.1.isSome)=true:=by rfl) (hkw:(backToKw pos (keywordEach [⟨some "default",de,kpos⟩] X.env)).any (·.1.isNone)=false:=by rfl)
  (hks:(backToKw pos (keywordEach [⟨some "default",de,kpos⟩] X.env)).filterMap (·.1)=[("default":Str)]:=by rfl) :
  PE X (.Call (.Name "max" p) [e] [⟨some "default",de,kpos⟩] pos) (zR X.K t tk):=by
 intro pins s σ H Q I h
 have hb:bootBuiltins "max"=some (.builtin "max"):=by decide +kernel
 refine wpAny_Call_Name_kw (dG I hg hm hb ?_)
 refine callWith_kw (bx (ha pos pins s σ H _ I h) fun us s1 ⟨vs,H1,I1,r,q⟩=>?_) he hpl hall hkw
 refine bx (hk pos pins s1 σ H1 _ I1 q) fun ws s2 ⟨zs,H2,I2,rz,q2⟩=>?_
 rw[hks]
 obtain⟨l,ns,d,rfl,rfl,hs,q3⟩:=q2
 obtain⟨u,rfl,ru⟩:=r.one
 cases ru
 obtain⟨u2,rfl,ru2⟩:=rz.one
 obtain⟨t0,rfl⟩:=ru2
 obtain⟨its,rv,pl,_⟩:=I2.list hs
 obtain⟨ps,e1,e2⟩:=nq rv
 refine lv (xs:=ps.toArray) (I2.ok.hd hc) (by rw[<- e1];exact pl.isList) fun M t' h' tk' hM kp=>?_
 refine⟨.int M,H2,I2.kept (t':=tk') kp,⟨_,rfl⟩,q3 M ?_⟩
 have hl:ps.length=ns.length:=by rw[<- e2,FS]
 have at_:∀i (h:i<ns.length),numAt ps.toArray i=ns[i]:=fun i h=>by
  unfold numAt
  subst e2
  simp at h
  simp[h]
 rcases hM with⟨hz,hM⟩ | ⟨hz,⟨i,hi,ei⟩,h7⟩
 ·refine .inl ⟨Gz.mp ?_,hM⟩
  simp at hz
  rw[<- hl,hz];rfl
 ·have hi':i<ns.length:=by simpa[hl]using hi
  refine .inr ⟨by rw[<- ei,at_ i hi'];exact FZ _,fun a ha'=>?_⟩
  obtain⟨j,hj⟩:=List.mem_iff_getElem?.mp ha'
  obtain⟨hj1,hj2⟩:=FQ.mp hj
  have:=h7 j (by simpa[hl]using hj1)
  rw[at_ j hj1,hj2]at this
  exact this
end
end L2
namespace L2
open PySem PySem.Spec PyProof.Rows QL bS
theorem qM{α β:Type}{g:α->β}:∀(l:List α) (f':α->Option β),(∀k∈l,f' k=some (g k))->l.filterMap f'=l.map g
 | [],_,_=>rfl
 |a::l,f',h=>by
  rw[List.filterMap_cons,h a List.mem_cons_self,Gk,qM l f' fun k hk=>h k (F7 _ hk)]
section
variable {X:Cx}
def zX(K:PySem.W.Frag):R2:=fun x y H Q=>∃a b xs ys,x=.ref a/\y=.ref b/\bq K H a xs/\bq K H b ys/\xs.length+ys.length<=sizeLine/\∀p H',bq K H' p (xs++ys)->aq H H'->Q (.ref p) H'
theorem y_:jN X (binaryOp .Add) (zX X.K):=by
 intro pins s σ H x y v u Q I rx ry h
 obtain⟨a,b,xs,ys,rfl,rfl,ha,hb,hz,q⟩:=h
 by_cases hx:xs=[]
 ·subst hx
  cases rx
  cases ry
  obtain⟨its,r1,p1,_⟩:=I.tuple ha
  obtain⟨its2,r2,p2,_⟩:=I.tuple hb
  have e1:its=[]:=r1.zero
  subst e1
  obtain⟨⟨cls,dd,data,sl⟩,ho,hc,n,hd⟩:=id p1
  obtain⟨⟨cls2,dd2,data2,sl2⟩,ho2,hc2,n2,hd2⟩:=id p2
  simp only at hc hd hc2 hd2
  subst hc hd hc2 hd2
  exact concat_meets ⟨_,ho,rfl⟩ ⟨_,ho2,rfl⟩ noFill_tuple_add seq_tuple_add PySem.F.slot_tuple_add PySem.F.entry_tuple_add (PySem.F.args_tuple_add_2 _ _)
   (tuple_addW0 a b _ _ n n2 dd dd2 sl sl2 (by rfl)) ⟨ho,ho2,⟨.ref b,H,I,rfl,q b H (by rw[GE];exact hb) (aq.refl _)⟩⟩
 ·refine bP pins s σ H _ _ v u Q I rx ry ⟨a,b,xs,ys,rfl,rfl,ha,hb,hx,hz,fun e=>?_,fun _ p hp=>q p _ (bq.of ac) (ad hp)⟩
  refine q a H ?_ (aq.refl _)
  rw[e,Gq];exact ha
def Am(te ts:TE):TE:=fun σ H Q=>te σ H fun x H1=>ts σ H1 fun y H2=>∃r:List Nat,x=.str (tx r)/\y=.int (-1)/\r.length<=1000/\Q (.str (tx r.reverse)) H2
theorem AS(n:Nat):Builtin.Str.strSliceIndices none none (-1) n=(List.range n).map fun k=>n-1-k:=by
 unfold Builtin.Str.strSliceIndices sliceRange
 by_cases hn:n=0
 ·subst hn;decide
 ·simp only[show ¬ ((-1:Int)>0) by decide,if_false]
  rw[if_pos (by omega)]
  have e:(((n:Int)-1 - -1 - -1-1)/(- -1)).toNat=n:=by
   have:(- -1:Int)=1:=by decide
   rw[this,Int.ediv_one]
   omega
  rw[e]
  refine List.map_congr_left fun k hk=>?_
  omega
variable {e st:Expr}{te ts:TE}{p2 pos:Pos}
theorem za(he:PE X e te)(hs:PE X st ts):PE X (.Subscript e (.Slice none none (some st) p2) pos) (Am te ts):=by
 intro pins s σ H Q I h
 refine Subscript_ (bx (he pins s σ H _ I h) fun v s1 ⟨x,H1,I1,r1,q1⟩=>?_)
 refine wpAny_Slice ?_
 rw[evalPart_none]
 refine wpAny_pure (wpAny_pure ?_)
 show wpAny _ _ (eval st X.env) _ _ _
 refine bx (hs pins s1 σ H1 _ I1 q1) fun vs s2 ⟨y,H2,I2,r2,r,ex,ey,hl,q⟩=>?_
 subst ex
 subst ey
 obtain⟨t1,rfl⟩:=r1
 obtain⟨t2,rfl⟩:=r2
 have I3:aH X pins σ H2 {s2 with heap:=s2.heap.push {cls:=.type "slice",data:=.fields #[.none,.none,.int (-1) t2]} }:=I2.kept (t':=s2.toks) fun b ob q=>FR _ q
 have hsl:Heap.IsSlice (s2.heap.push {cls:=.type "slice",data:=.fields #[.none,.none,.int (-1) t2]}) s2.heap.objs.size none none (some (-1,t2)):=⟨_,FX _ rfl,rfl,rfl⟩
 have l9:(if((Option.map (fun x:Int×Tok=>x.1) (some (-1,t2))).getD 1==1&&(slicePicked (tx r) none none (some (-1,t2))).length==(tx r).length)=true then tx r else⟨((slicePicked (tx r) none none (some (-1,t2))).filterMap ((tx r).cps[·]?)).toArray⟩)=tx r.reverse:=by
  have e1:slicePicked (tx r) none none (some (-1,t2))=(List.range r.length).map fun k=>r.length-1-k:=by
   unfold slicePicked
   rw[<- AS,<- aA r]
   rfl
  rw[if_neg (by simp),e1]
  have e2:((List.range r.length).map fun k=>r.length-1-k).filterMap ((tx r).cps[·]?)=r.reverse:=by
   have:∀k∈List.range r.length,(tx r).cps[r.length-1-k]?=some (r.reverse.getD k 0):=fun k hk=>by
    have hk':=List.mem_range.mp hk
    rw[<- Array.getElem?_toList,fA,List.getD_eq_getElem?_getD,List.getElem?_reverse hk',FP (by omega),Option.getD_some]
   rw[List.filterMap_map]
   refine(qM (g:=fun k=>r.reverse.getD k 0) _ _ (fun k hk=>this k hk)).trans ?_
   apply List.ext_getElem?
   intro i
   rw[FU]
   by_cases hi:i<r.length
   ·rw[List.getElem?_range hi,Option.map_some,List.getD_eq_getElem?_getD,FP (by rw[F8];exact hi),Option.getD_some]
   ·rw[List.getElem?_eq_none (by rw[List.length_range];omega),List.getElem?_eq_none (by rw[F8];omega)];rfl
  rw[e2]
  rfl
 have hg:wpAny (model X.prog X.w) X.A (getItem (.str (tx r) t1) (.ref s2.heap.objs.size)) (EP X pins σ Q) X.xe {s2 with heap:=s2.heap.push {cls:=.type "slice",data:=.fields #[.none,.none,.int (-1) t2]} }:=by
  refine wpAny_getItem_str_slice hsl (by rfl) ?_
  unfold sliceMade
  refine post_val_or_str ⟨?_,fun t' k=>?_⟩
  ·rw[l9];rw[aA];exact ak (by rw[F8];omega)
  ·rw[l9];exact⟨.str _,H2,I3.tok _,⟨_,rfl⟩,q⟩
 show wpAny (model X.prog X.w) X.A (subscriptTail e (.Slice none none (some st) p2) (.str (tx r) t1) (.ref s2.heap.objs.size)) (EP X pins σ Q) X.xe _
 exact tail_any (ops:=[.ref s2.heap.objs.size,.str (tx r) t1]) (typeIs_str _ _ _) F.slot_str_getitem.lookup hg (by with_unfolding_all rfl)
end
section
variable {prog:Program}{w:World}{A:Around}{E:Value->Shared->Prop}{s:Shared}
end
section
variable {X:Cx}{elts:List Expr}{x1:Nat}{tp:Pos}
end
section
variable {K:PySem.W.Frag}{g:TG}{tb:TS}{D:ip}{σ:St}{H:Hp}
end
theorem kj:Slot "reversed" "__next__" "reversed.__next__":=
 .of (owner:="reversed") (n:="__next__") (by rw[typeLookup_type,builtinLookup_eq_fast];kernel_rfl) (by decide +kernel) (by decide +kernel) (by decide +kernel) (by first | exact .inl (by decide +kernel) | exact .inr (by decide +kernel)) (by rw[isSubtype_type];kernel_rfl)
theorem uQ:Slot "reversed" "__iter__" "reversed.__iter__":=
 .of (owner:="reversed") (n:="__iter__") (by rw[typeLookup_type,builtinLookup_eq_fast];kernel_rfl) (by decide +kernel) (by decide +kernel) (by decide +kernel) (by first | exact .inl (by decide +kernel) | exact .inr (by decide +kernel)) (by rw[isSubtype_type];kernel_rfl)
theorem zo:Slot "reversed" "__init__" "object.__init__":=
 .of (owner:="object") (n:="__init__") (by rw[typeLookup_type,builtinLookup_eq_fast];kernel_rfl) (by decide +kernel) (by decide +kernel) (by decide +kernel) (by first | exact .inl (by decide +kernel) | exact .inr (by decide +kernel)) (by rw[isSubtype_type];kernel_rfl)
theorem qj:Slot "reversed" "__length_hint__" "reversed.__length_hint__":=
 .of (owner:="reversed") (n:="__length_hint__") (by rw[typeLookup_type,builtinLookup_eq_fast];kernel_rfl) (by decide +kernel) (by decide +kernel) (by decide +kernel) (by first | exact .inl (by decide +kernel) | exact .inr (by decide +kernel)) (by rw[isSubtype_type];kernel_rfl)
theorem oN:entryFor table "reversed.__next__"=some Builtin.«reversed.__next__»:=entryFor_of_tree (by kernel_rfl)
theorem vZ:entryFor table "reversed.__length_hint__"=some Builtin.«reversed.__length_hint__»:=entryFor_of_tree (by kernel_rfl)
theorem pE(a:Value):argsOk "reversed.__next__" ⟨[a],[]⟩:=by unfold argsOk;kernel_rfl
theorem wa(a:Value):argsOk "reversed.__iter__" ⟨[a],[]⟩:=by unfold argsOk;kernel_rfl
theorem v6(a:Value):argsOk "reversed.__length_hint__" ⟨[a],[]⟩:=by unfold argsOk;kernel_rfl
theorem vA:entryFor table "reversed.__iter__"=some Builtin.«dict_keyiterator.__iter__»:=
 entryFor_alias (id':="dict_keyiterator.__iter__") (by kernel_rfl) (by first | rfl | decide +kernel | (unfold String.splitOn;simp +decide [String.splitOnAux])) (by decide +kernel) (by kernel_rfl)
theorem v_:TypeCalled "reversed" "reversed.__new__" "object.__init__":=
 ⟨by decide +kernel,by decide +kernel,⟨_,_,F.mro_reversed⟩,F.made_reversed,by decide +kernel,by rw[isSubtype_type];kernel_rfl,zo⟩
theorem v8:typeLookup (.type "tuple") "__reversed__"=pure none:=by rw[typeLookup_type,builtinLookup_eq_fast];kernel_rfl
theorem uh:isSubtype (.type "tuple") (.type "dict")=pure false:=by rw[isSubtype_type];kernel_rfl
abbrev zy(a:Addr)(i:Int):Obj:={cls:=.type "reversed",data:=.fields #[.ref a,rawInt i]}
section
variable {prog:Program}{w:World}{A:Around}{E:Value->Shared->Prop}{s:Shared}
set_option maxHeartbeats 1000000 in
theorem xI(a:Addr)(us:Array Value)(n:Nat)(dd:Option Addr)(ss:Array (Option Value)) :
  Meets (Builtin.«reversed.__new__» ⟨[.type "reversed",.ref a],[]⟩) (fun _ R s=>s.heap.get? a=some {cls:=.type "tuple",dict:=dd,data:=.seq us n,slots:=ss}/\(us.size:Int)<2 ^ 63/\∀tk,R (.ok (.ret (.ref s.heap.objs.size))) {s with heap:=s.heap.push (zy a ((us.size:Int)-1)),toks:=tk}):=
 .of_wp fun prog w A R s h=>by
  obtain⟨h0,g0,d0,t0,o0⟩:=s
  obtain⟨ea,hz,h⟩:=h
  have isT:IsTup (Shared.heap ⟨h0,g0,d0,t0,o0⟩) a us:=⟨_,ea,rfl,n,rfl⟩
  have ty:Shared.TypeIs ⟨h0,g0,d0,t0,o0⟩ (.ref a) "tuple":=⟨_,ea,rfl⟩
  unfold Builtin.«reversed.__new__»
  refine wpAny_bind (wpAny_of_eq (newClass_reversed _) ?_)
  try dsimp only
  refine wpAny_bind (wpAny_of_eq (a:=()) (by first | rfl | kernel_rfl) ?_)
  refine wpAny_bind (wpAny_of_eq (a:=()) (by first | rfl | kernel_rfl) ?_)
  try dsimp only
  refine wpAny_bind (wpAny_specialOf ty v8 ?_)
  try dsimp only
  refine wpAny_bind ?_
  wp_delta
  refine wpAny_bind (wpAny_isInstance (b:=false) ty uh ?_)
  rw[if_neg (by decide)]
  refine wpAny_bind (wpAny_specialOf ty F.slot_tuple_getitem.lookup ?_)
  try dsimp only
  rw[if_pos (by decide)]
  refine wpAny_pure ?_
  rw[if_neg (by decide)]
  refine wpAny_bind (len_tuple isT hz ?_)
  refine wpAny_bind (wpAny_of_eq (a:=some (us.size:Int)) rfl ?_)
  try dsimp only
  unfold Builtin.SmallTypes.newRecord
  refine wpAny_bind (wpAny_newObj_type (wpAny_pure ⟨_,rfl,h _⟩))
theorem v3{a:Addr}{us:Array Value}{Q:Value->Shared->Prop}(ha:s.heap.IsTuple a us)(hz:(us.size:Int)<2 ^ 63)
  (q:∀tk,Q (.ref s.heap.objs.size) {s with heap:=s.heap.push (zy a ((us.size:Int)-1)),toks:=tk}):wpAny (model prog w) A (call (.type "reversed") [.ref a]) Q E s:=by
 obtain⟨⟨c,dd,dt,ss⟩,ea,ec,n,ed⟩:=ha
 simp only at ec ed
 subst ec ed
 refine callType_new v_ (by decide) (F.typeCall_reversed_1 _) (F.newCall_reversed_1 _) (fun ob=>F.args_object_init_2 ob _) F.entry_reversed_new (xI a us n dd ss) ⟨ea,hz,fun tk=>?_⟩
 exact⟨⟨_,FX _ rfl,rfl⟩,q tk⟩
def dC(h:Heap)(r a:Addr)(i:Int):Prop:=∃o,h.get? r=some o/\o.cls=.type "reversed"/\o.data=.fields #[.ref a,rawInt i]
theorem dC.ty{r a:Addr}{i:Int}(x:dC s.heap r a i):s.TypeIs (.ref r) "reversed":=let ⟨o,e,c,_⟩:=x;⟨o,e,c⟩
theorem vp{r a:Addr}{i:Nat}{us:Array Value}{x:Value}{Q:Option Value->Shared->Prop}(ir:dC s.heap r a (i:Int))(ha:s.heap.IsTuple a us)(hx:us[i]?=some x)(hz:us.size<2 ^ 62)
  (q:∀h' tk,dC h' r a ((i:Int)-1)->Heap.SameBut r s.heap h'->Q (some x) {s with heap:=h',toks:=tk}):wpAny (model prog w) A (pyNext (.ref r)) Q E s:=by
 obtain⟨orr,er,cr,dr⟩:=id ir
 unfold pyNext
 refine wpAny_bind (wpAny_attempt (wpAny_callSpecial?_slot (name:=Str.ofString "__next__") ir.ty kj (wpAny_call_entry kj ir.ty oN ?_ (pE _))))
 unfold Builtin.«reversed.__next__»
 refine wpAny_bind (wpAny_of_eq (a:=(Value.ref r,[])) rfl ?_)
 try dsimp only
 refine wpAny_bind (wpAny_field er dr (x:=.ref a) rfl ?_)
 refine wpAny_bind (wpAny_field er dr (x:=rawInt (i:Int)) rfl ?_)
 show wpAny _ _ (if(i:Int)<0 then _ else _) _ _ s
 rw[if_neg (by omega)]
 have ty:s.TypeIs (.ref a) "tuple":=by obtain⟨o,e,c,_⟩:=ha;exact⟨o,e,c⟩
 refine wpAny_bind (wpAny_specialOf ty F.slot_tuple_getitem.lookup ?_)
 rw[if_neg (by decide)]
 refine wpAny_bind (wpAny_mkInt ?_)
 have hi:i<us.size:=(Array.getElem?_eq_some_iff.mp hx).1
 have e62:(2:Nat) ^ 62=4611686018427387904:=by decide
 have e63:(2:Int) ^ 63=9223372036854775808:=by decide
 rw[e62]at hz
 refine wpAny_bind (wpAny_attempt (getItem_tuple (k:=(i:Int)) (j:=i) (x:=x) (show IsTup s.heap a us from ha) ?_ ?_ ?_ ?_ ?_))
 ·rw[e63];omega
 ·rw[e63];omega
 ·unfold seqIndex?
  simp
  omega
 ·exact hx
 ·dsimp only
  refine wpAny_bind (wpAny_field er dr (x:=rawInt (i:Int)) rfl ?_)
  show wpAny _ _ (setField (Value.ref r) 1 (rawInt ((i:Int)-1)) >>= _) _ _ _
  refine wpAny_bind (wpAny_setField er dr (by simp) (wpAny_pure ⟨x,rfl,wpAny_pure (q _ _ ?_ (Heap.SameBut.update ..))⟩))
  exact⟨_,F1 _ er (Obj.isFreed_of_fields (Obj.data_mapFields dr _)),(Obj.cls_mapFields ..).trans cr,by rw[Obj.data_mapFields dr];simp[rawInt]⟩
theorem w6{r a:Addr}{Q:Option Value->Shared->Prop}(hh:A.handled=none)(ir:dC s.heap r a (-1))(q:∀h',Heap.ExtBut r s.heap h'->Q none {s with heap:=h' }):wpAny (model prog w) A (pyNext (.ref r)) Q E s:=by
 obtain⟨orr,er,cr,dr⟩:=id ir
 unfold pyNext
 refine wpAny_bind (wpAny_attempt (wpAny_callSpecial?_slot (name:=Str.ofString "__next__") ir.ty kj (wpAny_call_entry kj ir.ty oN ?_ (pE _))))
 unfold Builtin.«reversed.__next__»
 refine wpAny_bind (wpAny_of_eq (a:=(Value.ref r,[])) rfl ?_)
 try dsimp only
 refine wpAny_bind (wpAny_field er dr (x:=.ref a) rfl ?_)
 refine wpAny_bind (wpAny_field er dr (x:=rawInt (-1)) rfl ?_)
 show wpAny _ _ (if(-1:Int)<0 then _ else _) _ _ s
 rw[if_pos (by decide)]
 refine wpAny_bind (wpAny_rule ?_)
 refine wpAny_bind ?_
 wp_delta
 refine wpAny_bind (wpAny_setField er dr (by simp) ?_)
 have er2:=F1 (Obj.mapFields fun x=>x.setIfInBounds 1 (rawInt (-1))) er (Obj.isFreed_of_fields (Obj.data_mapFields dr _))
 have dr2:(Obj.mapFields (fun x=>x.setIfInBounds 1 (rawInt (-1))) orr).data=.fields #[.ref a,rawInt (-1)]:=by rw[Obj.data_mapFields dr];simp
 refine wpAny_setField er2 dr2 (by simp) ?_
 refine wpAny_bind ?_
 unfold Builtin.SmallTypes.stopIteration
 show wpAny _ _ (newExc (.type "StopIteration") [] >>= _) _ _ _
 refine wpAny_bind ?_
 simp only[newExc,newTuple]
 refine wpAny_bind (wpAny_newObj_type ?_ (by size_fits))
 refine wpAny_bind (m:=firstArgMember _ _) (wpAny_of_eq (a:=Value.none) (by first | rfl | (simp only[firstArgMember];rfl)) ?_)
 refine wpAny_newObj_type ?_ (by size_fits)
 simp only[raiseNew]
 refine wpAny_bind (wpAny_handled ?_)
 first | rw[show A.in1.handled=none from hh] | rw[hh]
 refine wpAny_bind (wpAny_pure (wpAny_throw ?_))
 refine wpAny_bind (wpAny_isInstance (T:="StopIteration") (b:=true) ⟨_,FX _ rfl,rfl⟩ isSubtype_stop ?_)
 refine wpAny_pure (q _ fun b o hb e=>?_)
 exact FR _ (FR _ ((FW _ _ (Ne.symm hb)).trans ((FW _ _ (Ne.symm hb)).trans e)))
theorem oq{r a:Addr}{i:Int}{Q:Value->Shared->Prop}(ir:dC s.heap r a i)(q:Q (.ref r) s):wpAny (model prog w) A (pyIter (.ref r)) Q E s:=by
 refine wpAny_pyIter_slot ir.ty uQ (wpAny_call_entry uQ ir.ty vA ?_ (wa _))
 show wpAny _ _ (ret (.ref r)) _ _ s
 exact wpAny_pure ⟨_,rfl,"reversed",_,ir.ty,kj.lookup,q⟩
end
theorem sJ{prog:Program}{w:World}{A:Around}(hh:A.handled=none)(r a:Addr)(hne:a≠r)(us:Array Value)(hz:us.size<2 ^ 62) :
  Walks prog w A r [r,a] [r] us.size (fun i v=>us[us.size-1-i]?=some v) (fun i h=>i<=us.size/\dC h r a ((us.size:Int)-1-(i:Int))/\h.IsTuple a us) where
 sub:=fun b hb=>by simp at hb;simp[hb]
 frame:=fun _ _ _ x kp=>⟨x.1,by obtain⟨o,e,rr⟩:=x.2.1;exact⟨o,kp r (by simp) o e,rr⟩,by obtain⟨o,e,rr⟩:=x.2.2;exact⟨o,kp a (by simp) o e,rr⟩⟩
 item:=fun i s Q E hi x q=>by
  have e1:(us.size:Int)-1-(i:Int)=((us.size-1-i:Nat):Int):=by omega
  have ir:=x.2.1
  rw[e1]at ir
  have hx:us[us.size-1-i]?=some (us[us.size-1-i]'(by omega)):=Array.getElem?_eq_getElem (by omega)
  refine vp ir x.2.2 hx hz fun h' tk ir' sb=>?_
  have e2:((us.size-1-i:Nat):Int)-1=(us.size:Int)-1-((i+1:Nat):Int):=by omega
  rw[e2]at ir'
  refine q _ h' tk hx ⟨hi,ir',?_⟩ fun b o hb eo=>(sb.2 b (fun z=>hb (by simp[z]))).trans eo
  obtain⟨o,eo,rr⟩:=x.2.2
  exact⟨o,(sb.2 a hne).trans eo,rr⟩
 done:=fun s Q E x q=>by
  have e1:(us.size:Int)-1-(us.size:Int) = -1:=by omega
  have ir:=x.2.1
  rw[e1]at ir
  exact w6 hh ir fun h' ex=>q h' s.toks fun b o hb eo=>ex b o (fun z=>hb (by simp[z])) eo
 self:=fun _ _ _ _ x q=>oq x.2.1 q
theorem yy:typeLookup (.type "reversed") "__len__"=pure none:=by rw[typeLookup_type,builtinLookup_eq_fast];kernel_rfl
section
variable {prog:Program}{w:World}{A:Around}{E:Value->Shared->Prop}{s:Shared}
theorem vw{r a:Addr}{i:Nat}{us:Array Value}{Q:Value->Shared->Prop}(ir:dC s.heap r a ((i:Int)-1))(ha:s.heap.IsTuple a us)(hi:i<=us.size)(hz:us.size<2 ^ 62)
  (q:∀t tk,Q (.int (i:Int) t) {s with toks:=tk}):wpAny (model prog w) A (call (.builtin "reversed.__length_hint__") [.ref r]) Q E s:=by
 obtain⟨orr,er,cr,dr⟩:=id ir
 have e62:(2:Nat) ^ 62=4611686018427387904:=by decide
 have e63:(2:Int) ^ 63=9223372036854775808:=by decide
 rw[e62]at hz
 refine wpAny_call_entry qj ir.ty vZ ?_ (v6 _)
 unfold Builtin.«reversed.__length_hint__»
 refine wpAny_bind (wpAny_of_eq (a:=Value.ref r) rfl ?_)
 refine wpAny_bind (wpAny_field er dr (x:=.ref a) rfl ?_)
 rw[if_neg (show ¬ ((Value.ref a==Value.none)=true) from Gf)]
 refine wpAny_bind (len_tuple (show IsTup s.heap a us from ha) (by rw[e63];omega) ?_)
 refine wpAny_bind (wpAny_of_eq (a:=some (us.size:Int)) rfl ?_)
 try dsimp only
 refine wpAny_bind (wpAny_field er dr (x:=rawInt ((i:Int)-1)) rfl ?_)
 show wpAny _ _ (if(us.size:Int)<(i:Int)-1+1 then _ else _) _ _ _
 rw[if_neg (by omega)]
 have e1:(i:Int)-1+1=(i:Int):=by omega
 rw[e1]
 refine wpAny_bind (wpAny_mkInt (wpAny_pure ⟨_,rfl,q _ _⟩))
set_option maxHeartbeats 1000000 in
theorem tN{r a:Addr}{i:Nat}{us:Array Value}{Q:Bool->Shared->Prop}(ir:dC s.heap r a ((i:Int)-1))(ha:s.heap.IsTuple a us)(hi:i<=us.size)(hz:us.size<=sizeLine)
  (q:∀b tk,Q b {s with toks:=tk}):wpAny (model prog w) A (Builtin.List.listLengthHint (.ref r)) Q E s:=by
 unfold Builtin.List.listLengthHint
 refine wpAny_bind (wpAny_specialOf ir.ty yy ?_)
 try dsimp only
 rw[if_neg (by decide),if_neg (by decide)]
 refine wpAny_bind (wpAny_specialOf ir.ty qj.lookup ?_)
 have sp:splitId "reversed.__length_hint__"=some ("reversed","__length_hint__"):=by decide +kernel
 dsimp only
 rw[sp]
 dsimp only
 refine wpAny_bind (wpAny_isInstance (b:=true) ir.ty (by rw[isSubtype_type];kernel_rfl) ?_)
 rw[if_neg (by decide),if_neg (by decide +kernel)]
 refine wpAny_bind (wpAny_rule ?_)
 refine wpAny_bind (wpAny_of_eq (qj.bind _) ?_)
 have h62:us.size<2 ^ 62:=Gy hz (by decide +kernel)
 refine wpAny_bind (wpAny_attempt (vw ir ha hi h62 fun t tk=>?_))
 dsimp only
 have zs:sizeLine<2 ^ 62:=by decide +kernel
 have e62:(2:Nat) ^ 62=4611686018427387904:=by decide
 have e63:(2:Int) ^ 63=9223372036854775808:=by decide
 rw[e62]at zs
 have z0:(0:Int)<=(i:Int):=by omega
 have z1:(i:Int)<=(sizeLine:Int):=by omega
 have z2:(i:Int).toNat<=sizeLine:=by omega
 generalize(i:Int)=zi at z0 z1 z2 ⊢
 refine wpAny_bind (wpAny_pure ?_)
 show wpAny _ _ (if(!Builtin.List.listFitsIndex zi)=true then _ else _) _ _ _
 rw[fitsIndex_both (by rw[e63];omega) (by rw[e63];omega),if_neg (by decide),if_neg (by omega),ng z2,if_neg (by decide)]
 exact wpAny_pure (q _ _)
set_option maxHeartbeats 1000000 in
theorem qZ{R:Result->Shared->Prop}{r a B:Addr}{us:Array Value}{c:Nat}(hh:A.handled=none)(ir:dC s.heap r a ((us.size:Int)-1))(ha:s.heap.IsTuple a us)(hz:us.size<=sizeLine)(hra:a≠r)(hB:s.heap.get? B=some {cls:=.type "list",data:=.seq #[] c})(hBr:B≠r)(hBa:B≠a)
  (q:∀h' tk acc c',(∀b o,b≠B->b≠r->s.heap.get? b=some o->h'.get? b=some o)->h'.get? B=some {cls:=.type "list",dict:=none,data:=.seq acc c',slots:=#[]}->ItemsOf (fun i v=>us[us.size-1-i]?=some v) acc us.size->R (.ok (.ret .none)) {s with heap:=h',toks:=tk}) :
  wpAny (model prog w) A.in1 (Builtin.List.listExtendWith (.ref B) (.ref r) .none)
   (fun fin s'=>match fin with | .done f=>R (.ok f) s' | .again c'=>c'.quiet=true/\codeAny (model prog w) A c' R s') (fun e s'=>R (.error e) s') s:=by
 have W:=sJ (prog:=prog) (w:=w) (A:=A.in1) hh r a hra us (Gy hz (by decide +kernel))
 have st0:0<=us.size/\dC s.heap r a ((us.size:Int)-1-((0:Nat):Int))/\s.heap.IsTuple a us:=⟨Gd _,by simpa using ir,ha⟩
 have hBf:B∉[r,a]:=by simp[hBr,hBa]
 unfold Builtin.List.listExtendWith
 refine wpAny_bind (wpAny_typeOf ir.ty ?_)
 have k1:Builtin.List.listSameRef (.ref B) (.ref r)=false:=by simp[Builtin.List.listSameRef,hBr]
 rw[if_neg (by rw[k1];decide)]
 refine wpAny_bind (oq ir ?_)
 refine wpAny_bind (wpAny_holding (tN (i:=us.size) ir ha (Gc _) hz fun b tk=>?_))
 have loop:∀(h2:Heap) (tk2 c2:Nat),(∀b o,b≠B->s.heap.get? b=some o->h2.get? b=some o)->h2.get? B=some {cls:=.type "list",data:=.seq #[] c2} ->
   codeAny (model prog w) A (.builtin "list.extend.loop" ⟨[.ref B,.ref r,.none],[]⟩) R {s with heap:=h2,toks:=tk2}:=by
  intro h2 tk2 c2 kp eB
  have st2:=W.frame 0 s.heap h2 st0 fun b hb o e=>kp b o (fun z=>hBf (z▸hb)) e
  refine codeAny_extend_loopS W.toS hz _ hBf _ us.size 0 {s with heap:=h2,toks:=tk2} _ _ rfl (Gd _) st2 eB (ItemsOf.nil _) fun s' acc' c' hm hB' hacc=>?_
  rw[Moved.eq_with hm]
  refine q s'.heap s'.toks acc' c' (fun b o n1 n2 e=>hm.heap b o (fun z=>?_) (kp b o n1 e)) hB' hacc
  simp only[F6,List.not_mem_nil,or_false]at z
  rcases z with z | z
  ·exact n1 z
  ·exact n2 z
 cases b with
 |false=>
  rw[if_neg (by decide +kernel)]
  exact wpAny_pure ⟨plainId_quiet F.plain_extend_loop _,loop s.heap tk c (fun b o _ e=>e) hB⟩
 |true=>
  rw[if_pos (by rfl)]
  refine wpAny_bind (wpAny_rule (wpAny_bind ?_))
  unfold Builtin.List.listTouch
  show wpAny _ _ (updateSeq B (fun x=>x.push .none) >>= fun _=>updateSeq B (fun x=>x.pop)) _ _ _
  refine wpAny_bind (wpAny_updateSeq hB rfl ?_)
  have eB1:=F1 (Obj.mapSeq (fun x:Array Value=>x.push Value.none)) hB rfl
  refine wpAny_updateSeq eB1 rfl ?_
  have eB2:=F1 (Obj.mapSeq (fun x:Array Value=>x.pop)) eB1 rfl
  refine wpAny_pure ⟨plainId_quiet F.plain_extend_loop _,loop _ tk _ (fun b o n1 e=>?_) eB2⟩
  exact(FW _ _ (Ne.symm n1)).trans ((FW _ _ (Ne.symm n1)).trans e)
theorem vY{R:Result->Shared->Prop}{r a B:Addr}{us:Array Value}(hh:A.handled=none)(ir:dC s.heap r a ((us.size:Int)-1))(ha:s.heap.IsTuple a us)(hz:us.size<=sizeLine)(hra:a≠r)(hB:s.heap.get? B=some {cls:=.type "list",data:=.seq #[]})(hBr:B≠r)(hBa:B≠a)
  (q:∀h' tk acc c',(∀b o,b≠B->b≠r->s.heap.get? b=some o->h'.get? b=some o)->h'.get? B=some {cls:=.type "list",dict:=none,data:=.seq acc c',slots:=#[]}->ItemsOf (fun i v=>us[us.size-1-i]?=some v) acc us.size->R (.ok (.ret .none)) {s with heap:=h',toks:=tk}) :
  wpAny (model prog w) A.in1 (Builtin.«list.__init__» ⟨[.ref B,.ref r],[]⟩)
   (fun fin s'=>match fin with | .done f=>R (.ok f) s' | .again c'=>c'.quiet=true/\codeAny (model prog w) A c' R s') (fun e s'=>R (.error e) s') s:=by
 show wpAny _ _ (do let old <- Builtin.List.listItems (.ref B);Builtin.List.listUpdate (.ref B) (fun _=>#[]);letGo old.toList.reverse;Builtin.List.listExtendWith (.ref B) (.ref r) .none) _ _ s
 refine wpAny_bind ?_
 unfold Builtin.List.listItems
 refine wpAny_bind (wpAny_seqItems hB rfl (wpAny_pure ?_))
 show wpAny _ _ (updateSeq B (fun _=>#[]) >>= fun _=>letGo (#[]:Array Value).toList.reverse >>= fun _=>Builtin.List.listExtendWith (.ref B) (.ref r) .none) _ _ s
 refine wpAny_bind (wpAny_updateSeq hB rfl ?_)
 have eB:=F1 (Obj.mapSeq (fun _=>(#[]:Array Value))) hB rfl
 have kp:∀b o,b≠B->s.heap.get? b=some o->(s.heap.update B (Obj.mapSeq (fun _=>(#[]:Array Value)))).get? b=some o:=fun b o n e=>(FW _ _ (Ne.symm n)).trans e
 refine wpAny_bind (wpAny_letGo ?_)
 refine qZ hh ?_ ?_ hz hra eB hBr hBa fun h' tk acc c' hk hB' hacc=>q h' tk acc c' (fun b o n1 n2 e=>hk b o n1 n2 (kp b o n1 e)) hB' hacc
 ·obtain⟨o,e,rr⟩:=ir;exact⟨o,kp r o (Ne.symm hBr) e,rr⟩
 ·obtain⟨o,e,rr⟩:=ha;exact⟨o,kp a o (Ne.symm hBa) e,rr⟩
theorem mx{r a:Addr}{us:Array Value}{Q:Value->Shared->Prop}(hh:A.handled=none)(ir:dC s.heap r a ((us.size:Int)-1))(ha:s.heap.IsTuple a us)(hz:us.size<=sizeLine)(hra:a≠r)
  (q:∀h' tk acc c',(∀b o,b≠r->s.heap.get? b=some o->h'.get? b=some o)->h'.get? s.heap.objs.size=some {cls:=.type "list",dict:=none,data:=.seq acc c',slots:=#[]}->ItemsOf (fun i v=>us[us.size-1-i]?=some v) acc us.size->Q (.ref s.heap.objs.size) {s with heap:=h',toks:=tk}) :
  wpAny (model prog w) A (call (.type "list") [.ref r]) Q E s:=by
 refine callType_codes (Q₁:=fun ob s1=>ob=.ref s.heap.objs.size/\s1={s with heap:=s.heap.push {cls:=.type "list",data:=.seq #[]} }) F.called_list (F.typeCall_list_1 _) F.entry_list_init (code_list_new _ ⟨rfl,rfl⟩) fun ob s1 h1=>?_
 obtain⟨rfl,rfl⟩:=h1
 have eB:(s.heap.push {cls:=.type "list",data:=.seq #[]}).get? s.heap.objs.size=some {cls:=.type "list",data:=.seq #[]}:=FX _ rfl
 have lr:s.heap.objs.size≠r:=by obtain⟨o,e,_⟩:=ir;exact Nat.ne_of_gt (Gg e)
 have la:s.heap.objs.size≠a:=by obtain⟨o,e,_⟩:=ha;exact Nat.ne_of_gt (Gg e)
 refine⟨⟨_,eB,rfl⟩,F.args_list_init_2 _ _,vY (A:=A.in1) hh ?_ ?_ hz hra eB lr la fun h' tk acc c' hk hB' hacc=>?_⟩
 ·obtain⟨o,e,rr⟩:=ir;exact⟨o,FR _ e,rr⟩
 ·obtain⟨o,e,rr⟩:=ha;exact⟨o,FR _ e,rr⟩
 ·exact⟨rfl,q h' tk acc c' (fun b o n e=>hk b o (F_ (Gg e)) n (FR _ e)) hB' hacc⟩
end
def sr(K:PySem.W.Frag)(t:TE):TE:=fun σ H Q=>t σ H fun x H1=>∃a xs,x=.ref a/\bq K H1 a xs/\∀p,H1 p=none->Q (.ref p) (ap H1 p (.lst xs.reverse))
section
variable {X:Cx}{e:Expr}{t:TE}{p p2 pos pos2:Pos}
set_option maxHeartbeats 1000000 in
theorem m9(hc:X.calm=true)(ha:PE X e t)(g1:Gl X "list")(m1:X.mg "list"=none)(g2:Gl X "reversed")(m2:X.mg "reversed"=none)
  (he1:starEach [.Call (.Name "reversed" p2) [e] [] pos2] X.env=[(false,eval (.Call (.Name "reversed" p2) [e] [] pos2) X.env)]:=by rfl) (he2:starEach [e] X.env=[(false,eval e X.env)]:=by rfl) :
  PE X (.Call (.Name "list" p) [.Call (.Name "reversed" p2) [e] [] pos2] [] pos) (sr X.K t):=by
 intro pins s σ H Q I h
 have hl:bootBuiltins "list"=some (.type "list"):=by decide +kernel
 have hr:bootBuiltins "reversed"=some (.type "reversed"):=by decide +kernel
 refine wpAny_Call_Name_kw (dG I g1 m1 hl ?_)
 refine PyProof.Rows.callWith_type1 ?_ he1 rfl
 rw[he1]
 show wpAny _ _ (spliced [(false,eval (.Call (.Name "reversed" p2) [e] [] pos2) X.env)]) _ _ _
 refine Calls.spliced_cons ?_
 refine wpAny_Call_Name_kw (dG (I.tok _) g2 m2 hr ?_)
 refine PyProof.Rows.callWith_type1 ?_ he2 rfl
 rw[he2]
 show wpAny _ _ (spliced [(false,eval e X.env)]) _ _ _
 refine Calls.spliced_cons (bx (ha pins _ σ H _ (I.tok _) h) fun u s1 ⟨x,H1,I1,rx,a,xs,ex,hq,q⟩=>Calls.spliced_nil ?_)
 subst ex
 cases rx
 obtain⟨its,rv,p1,hz⟩:=I1.tuple hq
 have hln:=rv.length
 have zs:sizeLine<2 ^ 62:=by decide +kernel
 have e62:(2:Nat) ^ 62=4611686018427387904:=by decide
 have e63:(2:Int) ^ 63=9223372036854775808:=by decide
 rw[e62]at zs
 refine v3 p1 (by rw[FY,e63];omega) fun tk=>Calls.spliced_nil ?_
 have hlt:a<s1.heap.objs.size:=by obtain⟨o,e,_⟩:=p1;exact Gg e
 refine mx (us:=its.toArray) (a:=a) (I.ok.hd hc) ⟨_,FX _ rfl,rfl,rfl⟩ (by obtain⟨o,e,rr⟩:=p1;exact⟨o,FR _ e,rr⟩) (by rw[FY];omega) (F_ hlt) fun h' tk' acc c' hk hB hacc=>?_
 have sz:(s1.heap.push (zy a ((its.toArray.size:Int)-1))).objs.size=s1.heap.objs.size+1:=Heap.size_push ..
 have eacc:acc=its.reverse.toArray:=by
  obtain⟨hs,hat⟩:=hacc
  have hs:acc.size=its.length:=by simpa using hs
  apply Array.ext'
  apply List.ext_getElem?
  intro i
  rw[Array.getElem?_toList]
  by_cases hi:i<its.length
  ·have e1:acc[i]?=some (acc[i]'(by omega)):=Array.getElem?_eq_getElem (by omega)
   have e2:=hat i _ e1
   rw[e1,List.getElem?_reverse hi,<- e2]
   simp
  ·rw[Array.getElem?_eq_none (by omega),List.getElem?_eq_none (by rw[F8];omega)]
 have kp:∀b o,s1.heap.get? b=some o->h'.get? b=some o:=fun b o eo=>hk b o (F_ (Gg eo)) (FR _ eo)
 have hfr:H1 (s1.heap.push (zy a ((its.toArray.size:Int)-1))).objs.size=none:=I1.hok.fresh (by rw[sz];exact Nat.le_succ _)
 refine⟨.ref _,_,I1.laid (t':=tk') (o:=.lst xs.reverse) kp (by rw[sz];exact Nat.le_succ _) ⟨by rw[F8];exact hz,its.reverse,c',rv.reverse,?_⟩,rfl,q _ hfr⟩
 rw[<- eacc]
 exact hB
end
section
variable {prog:Program}{w:World}{A:Around}{E:Value->Shared->Prop}
theorem si{i0 a:Addr}{us:Array Value}(hne:a≠i0):∀(n i:Nat) (s:Shared) (Q:List Value->Shared->Prop),s.heap.IsListIter i0 a i->s.heap.IsList a us->i+n<=us.size ->
  (∀h',h'.IsListIter i0 a (i+n)->Heap.SameBut i0 s.heap h'->Q ((us.toList.drop i).take n) {s with heap:=h' })->wpAny (model prog w) A (draw (.ref i0) n) Q E s
 |0,i,s,Q,ii,ha,hn,q=>by
  unfold draw
  have:=q s.heap ii (Heap.SameBut.refl _ _)
  rw[GK]at this
  exact wpAny_pure this
 |n+1,i,s,Q,ii,ha,hn,q=>by
  have hx:us[i]?=some (us[i]'(by omega)):=Array.getElem?_eq_getElem (by omega)
  unfold draw
  refine wpAny_bind (wpAny_pyNext_list_item ii ha hx fun h1 i1 s1=>?_)
  dsimp only
  have ha1:Heap.IsList h1 a us:=by obtain⟨o,e,rr⟩:=ha;exact⟨o,(s1.2 a hne).trans e,rr⟩
  refine wpAny_bind (wpAny_holding (si hne n (i+1) {s with heap:=h1} _ i1 ha1 (by omega) fun h2 i2 s2=>?_))
  refine wpAny_pure ?_
  have:=q h2 (by rw[show i+(n+1)=i+1+n by omega];exact i2) (s1.trans s2)
  have e:us.toList.drop i=us[i]'(by omega)::us.toList.drop (i+1):=by
   rw[List.drop_eq_getElem_cons (by simpa using(by omega:i<us.size))]
   simp
  rw[e,List.take_succ_cons]at this
  exact this
theorem tP{s:Shared}{a:Addr}{us:Array Value}{targets:List (Bool×(Value->Sem Unit))}{Q:Unit->Shared->Prop}(hh:A.handled=none)(ha:s.heap.IsList a us)
  (hn:targets.length=us.size) (hs:targets.findIdx? (·.1)=none)
  (q:∀h',Heap.ExtBut s.heap.objs.size s.heap h'->wpAny (model prog w) A (assignInOrder (targets.map (·.2)) us.toList) Q E {s with heap:=h' }) :
  wpAny (model prog w) A (unpack (.ref a) targets) Q E s:=by
 have hlt:a≠s.heap.objs.size:=by obtain⟨o,ho,_⟩:=ha;exact F_ (Gg ho)
 have ty:s.TypeIs (.ref a) "list":=by obtain⟨o,ho,hc,_⟩:=ha;exact⟨o,ho,hc⟩
 unfold unpack
 rw[hn,hs]
 refine wpAny_bind (wpAny_holding ?_)
 unfold unpackItems
 refine wpAny_bind ?_
 unfold notIterableAtAll
 refine wpAny_bind (wpAny_specialOf ty PySem.F.slot_list_iter.lookup ?_)
 refine wpAny_pure ?_
 simp only[Bool.false_eq_true,if_false]
 refine wpAny_bind (wpAny_holding (wpAny_pyIter_list ha ?_))
 have hap:Heap.IsList (s.heap.push {cls:=.type "list_iterator",data:=.fields #[.ref a,.int 0 0]}) a us:=ha.push _
 refine wpAny_bind (wpAny_holding (si hlt us.size 0 _ _ ⟨_,FX _ rfl,rfl,rfl⟩ hap (by omega) fun h1 i1 s1=>?_))
 have al:List.take us.size (List.drop 0 us.toList)=us.toList:=by rw[GL];exact List.take_of_length_le (by simp)
 rw[al,if_neg (by simp)]
 have ha1:Heap.IsList h1 a us:=by obtain⟨o,e,rr⟩:=hap;exact⟨o,(s1.2 a hlt).trans e,rr⟩
 refine wpAny_bind (wpAny_holding (wpAny_pyNext_list_end hh i1 ha1 (by simp) fun h2 e2=>?_))
 simp only[Option.isSome_none,Bool.false_eq_true,if_false]
 exact wpAny_pure (q h2 fun b o hb e=>e2 b o hb (s1.extBut b o hb (FR _ e)))
end
def zP(K:PySem.W.Frag)(n:Nat)(t:zN):TG:=fun v σ H Q=>∃a xs,v=.ref a/\aT K H a xs/\xs.length=n/\t xs σ H Q
theorem zM{X:Cx}{es:List Expr}{k:Nat}{t:zN}{n:Nat}{pos:Pos}(hc:X.calm=true)(h:Bx X es t)
  (hn:(assignEach es X.env).length=n:=by rfl) (hst:(assignEach es X.env).findIdx? (·.1)=none:=by rfl):PG X (.Tuple es k pos) (zP X.K n t):=by
 intro pins s σ H v u Q I r hw
 obtain⟨a,xs,e1,hq,hl,hw⟩:=hw
 subst e1
 cases r
 obtain⟨its,rv,pl,hz⟩:=I.list hq
 rw[arm_assign_Tuple]
 refine wpAny_bind (wpAny_standAt (tP (us:=its.toArray) (I.ok.hd hc) pl.isList (by simp[hn,<- hl,rv.length]) hst fun h' hx=>?_))
 have I1:aH X pins σ H {s with heap:=h' }:=I.kept (t':=s.toks) fun b o e=>hx b o (F_ (Gg e)) e
 exact h pins _ σ H xs _ Q I1 (by simpa using rv) hw
theorem jZ:isSubtype (.type "range_iterator") (.type "reversed")=pure false:=by rw[isSubtype_type];kernel_rfl
abbrev xg(a n c:Int):Obj:={cls:=.type "range_iterator",data:=.fields #[rawInt a,rawInt n,rawInt c]}
section
variable {prog:Program}{w:World}{A:Around}{E:Value->Shared->Prop}{s:Shared}
theorem j6{r:Addr}{a b:Int}{t u v:Tok}{Q:Value->Shared->Prop}(hr:IsRange s.heap r a b 1 t u v)(h1:-(2 ^ 62)<=a)(h2:a<2 ^ 62)(h3:-(2 ^ 62)<=b)(h4:b<2 ^ 62)
  (h:Q (.ref s.heap.objs.size) {s with heap:=s.heap.push (xg (a+(Builtin.Range.rangeSize a b 1-1)*1) (Builtin.Range.rangeSize a b 1) (-1))}):wpAny (model prog w) A (call (.builtin "range.__reversed__") [.ref r]) Q E s:=by
 have ty:s.TypeIs (.ref r) "range":=⟨_,hr,rfl⟩
 refine wpAny_call_entry F.slot_range_reversed ty F.entry_range_reversed ?_ (F.args_range_reversed_1 _)
 unfold Builtin.«range.__reversed__»
 refine wpAny_bind (wpAny_of_eq (a:=Value.ref r) rfl ?_)
 refine wpAny_bind ?_
 unfold Builtin.Range.rangeFields
 refine wpAny_bind (wpAny_field hr rfl (x:=.int a t) rfl ?_)
 refine wpAny_bind (wpAny_of_eq (a:=some a) rfl ?_)
 refine wpAny_bind (wpAny_field hr rfl (x:=.int b u) rfl ?_)
 refine wpAny_bind (wpAny_of_eq (a:=some b) rfl ?_)
 refine wpAny_bind (wpAny_field hr rfl (x:=.int 1 v) rfl ?_)
 refine wpAny_bind (wpAny_of_eq (a:=some 1) rfl ?_)
 refine wpAny_pure ?_
 dsimp only
 have hs:=rangeSize_one a b
 have f63:(2:Int) ^ 63=9223372036854775808:=by decide
 have f62:(2:Int) ^ 62=4611686018427387904:=by decide
 rw[f62]at h1 h2 h3 h4
 have fit:∀x:Int,-9223372036854775808<=x->x<9223372036854775808->Builtin.Range.rangeFitsLong x=true:=fun x g1 g2=>by
  unfold Builtin.Range.rangeFitsLong
  rw[f63]
  simp[g1,g2]
 have hn:0<=Builtin.Range.rangeSize a b 1/\Builtin.Range.rangeSize a b 1<9223372036854775808:=by rw[hs];split<;>omega
 rw[fit a (by omega) (by omega),fit b (by omega) (by omega),fit 1 (by omega) (by omega),fit (-1) (by omega) (by omega),fit (a-1) (by omega) (by omega),fit _ (by omega) hn.2]
 show wpAny _ _ (newFields "range_iterator" _ >>= _) _ _ _
 unfold newFields
 exact wpAny_bind (wpAny_newObj_type (wpAny_pure ⟨_,rfl,h⟩))
theorem kb{r:Addr}{a b:Int}{t u v:Tok}{Q₁:Value->Shared->Prop}(hr:IsRange s.heap r a b 1 t u v)(h1:-(2 ^ 62)<=a)(h2:a<2 ^ 62)(h3:-(2 ^ 62)<=b)(h4:b<2 ^ 62)
  (h:Q₁ (.ref s.heap.objs.size) {s with heap:=s.heap.push (xg (a+(Builtin.Range.rangeSize a b 1-1)*1) (Builtin.Range.rangeSize a b 1) (-1))}) :
  codeAny (model prog w) A (.call (.builtin "reversed.__new__") ⟨[.type "reversed",.ref r],[]⟩) (wants Q₁ E) s:=by
 have ty:s.TypeIs (.ref r) "range":=⟨_,hr,rfl⟩
 refine codeAny_of_tree ?_
 show wpAny _ A.in1 (do checkBuiltinCall "reversed.__new__" ⟨[.type "reversed",.ref r],[]⟩;again (.builtin "reversed.__new__" ⟨[.type "reversed",.ref r],[]⟩)) _ _ s
 refine wpAny_bind (wpAny_of_eq (F.newCall_reversed_1 _) (wpAny_pure ⟨plainId_quiet F.plain_reversed_new _,codeAny_builtin F.entry_reversed_new ?_⟩))
 rw[Around.under_plainId F.plain_reversed_new _]
 unfold Builtin.«reversed.__new__»
 refine wpAny_bind (wpAny_of_eq (newClass_reversed _) ?_)
 try dsimp only
 refine wpAny_bind (wpAny_of_eq (a:=()) (by first | rfl | kernel_rfl) ?_)
 refine wpAny_bind (wpAny_of_eq (a:=()) (by first | rfl | kernel_rfl) ?_)
 try dsimp only
 refine wpAny_bind (wpAny_specialOf ty F.slot_range_reversed.lookup ?_)
 try dsimp only
 refine wpAny_bind (wpAny_of_eq (F.slot_range_reversed.bind _) ?_)
 try dsimp only
 first
 |rw[if_neg (show ¬ ((Value.builtin "range.__reversed__" == Value.none)=true) from Gf)]
 | (show wpAny _ _ (if(Value.builtin "range.__reversed__" == Value.none)=true then _ else _) _ _ _;rw[if_neg (show ¬ ((Value.builtin "range.__reversed__" == Value.none)=true) from Gf)])
 refine wpAny_bind (wpAny_rule ?_)
 refine wpAny_bind (m:=runValue (.call (.builtin "range.__reversed__") ⟨[.ref r],[]⟩)) (show wpAny _ _ (call (.builtin "range.__reversed__") [.ref r]) _ _ _ from j6 hr h1 h2 h3 h4 ?_)
 first
 |exact wpAny_pure h
 |exact wpAny_bind (wpAny_pure (wpAny_pure h))
theorem j3{r:Addr}{a b:Int}{t u v:Tok}{Q:Value->Shared->Prop}(hr:IsRange s.heap r a b 1 t u v)(h1:-(2 ^ 62)<=a)(h2:a<2 ^ 62)(h3:-(2 ^ 62)<=b)(h4:b<2 ^ 62)
  (h:Q (.ref s.heap.objs.size) {s with heap:=s.heap.push (xg (a+(Builtin.Range.rangeSize a b 1-1)*1) (Builtin.Range.rangeSize a b 1) (-1))}):wpAny (model prog w) A (call (.type "reversed") [.ref r]) Q E s:=by
 refine callType_other (U:="range_iterator") (Q₁:=fun obj s₁=>obj=.ref s.heap.objs.size/\s₁={s with heap:=s.heap.push (xg (a+(Builtin.Range.rangeSize a b 1-1)*1) (Builtin.Range.rangeSize a b 1) (-1))}) (by decide +kernel) F.create_reversed ⟨_,_,F.mro_reversed⟩ F.made_reversed jZ (F.typeCall_reversed_1 _) (kb hr h1 h2 h3 h4 ⟨rfl,rfl⟩) ?_
 rintro obj s₁ ⟨rfl,rfl⟩
 exact⟨⟨_,FX _ rfl,rfl⟩,h⟩
end
def Cg(hi:Int)(n:Nat):It:=⟨fun i _=>i<n,fun i H x H'=>H'=H/\x=.int (hi-i),fun i _=>n<=i⟩
theorem se{P:Program}{w:World}{K:PySem.W.Frag}{tg:Expr}(it:Addr)(lo:Int)(n:Nat):pP P w K tg (Cg lo n) [it] it (fun i h=>IsRangeIter h it (lo+(i:Nat)*(-1)) ((n:Int)-(i:Nat)) (-1)) where
 mem:=by simp
 obj:=fun i h st b hb=>by
  have e:b=it:=by simpa using hb
  subst e
  exact⟨_,st,fun v z=>by
   have z':Data.fields _=Data.cell v:=z
   cases z'⟩
 keep:=fun i h h' st k=>k it (by simp) _ st
 item:=by
  intro X hP hw hK hc i pins s σ H E I hf st hg
  subst hP hw hK
  obtain⟨f0,f1,f2,f3,f4,f5⟩:=hf it (by simp)
  have W:=Walks.range (prog:=X.prog) (w:=X.w) (I.ok.hd hc) it lo (-1) n
  refine W.item i s _ _ hg st fun v h' tk hv st' kk=>?_
  obtain⟨t,rfl⟩:=hv
  have I1:aH X pins σ H {s with heap:=h',toks:=tk}:=I.turned (fun b o hb e=>kk b o (by simpa using hb) e) f0 f1 f3 f4 f5
  refine⟨_,rfl,or (s:={s with heap:=h',toks:=tk}) (n:="range_iterator") st' rfl rfl (by decide) ⟨.int (lo-i),H,I1,⟨t,?_⟩,⟨rfl,rfl⟩,st',fun b hb=>(hf b hb).1⟩⟩
  rw[show lo+(i:Int)*(-1)=lo-i by omega]
 done:=by
  intro X hP hw hK hc i pins s σ H E I hf st hg
  subst hP hw hK
  obtain⟨f0,f1,f2,f3,f4,f5⟩:=hf it (by simp)
  exact wpAny_pyNext_range_end (I.ok.hd hc) st (by have:n<=i:=hg;omega) fun h' eb=>⟨rfl,I.turned (t':=s.toks) (fun b o hb e=>eb b o hb e) f0 f1 f3 f4 f5⟩
 self:=fun _ _ _ _ _ st h=>wpAny_pyIter_rangeiter st h
section
variable {X:Cx}{tg:Expr}
theorem we{pins:List (Addr×Obj)}{σ:St}{H:Hp}{s:Shared}{R:It->Hp->Prop}{E:Value->Shared->Prop}{lo hi:Int}{t u v:Tok}{tk:Nat}(I:aH X pins σ H s)(h1:-(2 ^ 62)<=lo)(h2:lo<2 ^ 62)(h3:-(2 ^ 62)<=hi)(h4:hi<2 ^ 62)
  (q:R (Cg (lo+(hi-lo).toNat-1) (hi-lo).toNat) H):wpAny (model X.prog X.w) X.A (call (.type "reversed") [.ref s.heap.objs.size]) (fun v s'=>wpAny (model X.prog X.w) X.A (pyIter v) (Co X pins σ tg R) E s') E {s with heap:=s.heap.push {cls:=.type "range",data:=.fields #[.int lo t,.int hi u,.int 1 v]},toks:=tk}:=by
 refine j3 (s:={s with heap:=s.heap.push {cls:=.type "range",data:=.fields #[.int lo t,.int hi u,.int 1 v]},toks:=tk}) (IsRange.new ..) h1 h2 h3 h4 ?_
 have I1:aH X pins σ H {s with heap:=s.heap.push {cls:=.type "range",data:=.fields #[.int lo t,.int hi u,.int 1 v]},toks:=tk}:=I.kept fun b o e=>FR _ e
 have e0:Builtin.Range.rangeSize lo hi 1=(((hi-lo).toNat:Nat):Int):=by rw[rangeSize_one];split<;>omega
 rw[e0]
 have st:IsRangeIter ((s.heap.push {cls:=.type "range",data:=.fields #[.int lo t,.int hi u,.int 1 v]}).push (xg (lo+((((hi-lo).toNat:Nat):Int)-1)*1) (((hi-lo).toNat:Nat):Int) (-1))) (s.heap.push {cls:=.type "range",data:=.fields #[.int lo t,.int hi u,.int 1 v]}).objs.size ((lo+(hi-lo).toNat-1)+((0:Nat):Int)*(-1)) ((((hi-lo).toNat:Nat):Int)-((0:Nat):Int)) (-1):=by
  rw[show(lo+(hi-lo).toNat-1)+((0:Nat):Int)*(-1)=lo+((((hi-lo).toNat:Nat):Int)-1)*1 by omega,show(((hi-lo).toNat:Nat):Int)-((0:Nat):Int)=(((hi-lo).toNat:Nat):Int) by omega]
  exact FX _ rfl
 refine wpAny_pyIter_rangeiter st ?_
 refine⟨(s.heap.push {cls:=.type "range",data:=.fields #[.int lo t,.int hi u,.int 1 v]}).objs.size,[(s.heap.push {cls:=.type "range",data:=.fields #[.int lo t,.int hi u,.int 1 v]}).objs.size],_,_,H,rfl,
  I1.kept (t':=tk) fun b o e=>FR _ e,se _ (lo+(hi-lo).toNat-1) (hi-lo).toNat,st,fun b hb=>?_,q⟩
 have e:b=(s.heap.push {cls:=.type "range",data:=.fields #[.int lo t,.int hi u,.int 1 v]}).objs.size:=by simpa using hb
 subst e
 exact I1.fpOk (Gc _) (I1.hok.fresh (Gc _))
def zY(ta:TA):TI:=fun σ H R=>ta σ H fun vs H1=>∃i j:Int,vs=[.int i,.int j]/\(-(2 ^ 62)<=i/\i<2 ^ 62/\-(2 ^ 62)<=j/\j<2 ^ 62)/\R (Cg (i+(j-i).toNat-1) (j-i).toNat) H1
theorem zg{a b:Expr}{ta:TA}{p p2 pos pos2:Pos}(hg:Gl X "reversed")(hm:X.mg "reversed"=none)(g2:Gl X "range")(m2:X.mg "range"=none)(ha:PA X [a,b] ta)(hs:starEach [a,b] X.env=[(false,eval a X.env),(false,eval b X.env)]:=by rfl)(hs2:starEach [b] X.env=[(false,eval b X.env)]:=by rfl)
  (he1:starEach [.Call (.Name "range" p2) [a,b] [] pos2] X.env=[(false,eval (.Call (.Name "range" p2) [a,b] [] pos2) X.env)]:=by rfl) :
  PI X tg (.Call (.Name "reversed" p) [.Call (.Name "range" p2) [a,b] [] pos2] [] pos) (zY ta):=by
 intro pins s σ H R I h
 refine Call_ (dG I hg hm boot_reversed (PyProof.Rows.callWith_type1 ?_ he1 rfl))
 rw[he1]
 show wpAny _ _ (spliced [(false,eval (.Call (.Name "range" p2) [a,b] [] pos2) X.env)]) _ _ _
 refine Calls.spliced_cons ?_
 refine wpAny_Call_Name_kw (dG I g2 m2 boot_range ?_)
 refine PyProof.Rows.callWith_type1 (bx (ha pos2 pins s σ H _ I h) fun us s1 ⟨vs,H1,I1,r1,q1⟩=>?_) (by rw[hs,hs2]) (by rw[hs2];rfl)
 obtain⟨i,j,e,⟨q1,q2,q3,q4⟩,q⟩:=q1
 subst e
 cases r1 with
 |cons r rr=>
  cases rr with
  |cons r' rr=>
   cases rr
   obtain⟨t,rfl⟩:=r
   obtain⟨t',rfl⟩:=r'
   exact call_range_2 (Calls.spliced_nil (we I1 q1 q2 q3 q4 q))
end
theorem yf{hi:Int}{n:Nat}{g:TG}{tb:TS}{D:ip}{σ:St}{H:Hp}(Pv:Nat->St->Hp->Prop)(h0:Pv 0 σ H)
  (hs:∀i σ H,i<n->Pv i σ H->g (.int (hi-i)) σ H fun σ2 H2=>tb {D with nx:=Pv (i+1),ct:=Pv (i+1),bk:=D.nx} σ2 H2) (hd:∀σ H,Pv n σ H->D.nx σ H):uq (Cg hi n) g tb D σ H:=by
 refine⟨fun i m σ H=>m=n-i/\i<=n/\Pv i σ H,⟨n,by simp,Gd _,h0⟩,?_⟩
 rintro i m σ H ⟨rfl,hi,p⟩
 by_cases hlt:i<n
 ·refine .inr ⟨hlt,Pv (i+1),fun σ' H' p'=>⟨n-(i+1),by omega,rfl,hlt,p'⟩,fun x H' y=>?_⟩
  obtain⟨e,y⟩:=y
  subst e y
  exact hs i σ _ hlt p
 ·have e:i=n:=by omega
  subst e
  exact .inl ⟨Gc _,hd σ H p⟩
section
variable {prog:Program}{w:World}{A:Around}{E:Value->Shared->Prop}{s:Shared}
open HT in
theorem iY{t sl:Addr}{items:Array Value}{vl vu:Value}{lo hi:Option Int}{Q:Value->Shared->Prop}(ht:IsTup s.heap t items)(hs:s.heap.IsSliceOf sl vl vu .none)(pl:IsPart vl lo)(pu:IsPart vu hi)
  (hw:sIx items.size 0 lo=0/\sIx items.size items.size hi=items.size) (h:Q (.ref t) s):wpAny (model prog w) A (getItem (.ref t) (.ref sl)) Q E s:=by
 obtain⟨os,hos,hcs,hds⟩:=id hs
 have hTs:s.TypeIs (.ref sl) "slice":=⟨os,hos,hcs⟩
 unfold getItem
 try with_reducible refine wpAny_holding ?_
 first | refine wpAny_bind (wpAny_pure ?_) | skip
 refine wpAny_bind (wpAny_sequenceKey ht.typeIs (by decide) ?_)
 refine wpAny_bind (wpAny_callSpecial?_slot (name:=Str.ofString "__getitem__") ht.typeIs PyProof.Rows.slot_tuple_getitem
  (wpAny_call_entry PyProof.Rows.slot_tuple_getitem ht.typeIs entry_tuple_getitem ?_ (args_tuple_getitem _ _)))
 show wpAny _ _ (Builtin.Tuple.tupleItemsOf (.ref t) >>= _) _ _ s
 refine wpAny_bind (tupleItemsOf_ ht ?_)
 refine wpAny_bind (wpAny_typeOf hTs ?_)
 rw[if_pos (by decide)]
 refine wpAny_bind (fW hs pl pu ?_)
 have hyes:(((sIx items.size 0 lo:Nat):Int)==0&&(1:Int)==1&&(sIx items.size items.size hi-sIx items.size 0 lo)==items.size)=true:=by
  rw[hw.1,hw.2]
  simp
 show wpAny _ _ (if(((sIx items.size 0 lo:Nat):Int)==0&&(1:Int)==1&&(sIx items.size items.size hi-sIx items.size 0 lo)==items.size)=true then _ else _) _ _ s
 rw[if_pos hyes]
 refine wpAny_bind ?_
 unfold Builtin.Tuple.tupleIsExact
 refine wpAny_bind (wpAny_typeOf ht.typeIs ?_)
 refine wpAny_pure ?_
 rw[if_pos (by decide)]
 refine wpAny_bind (wpAny_rule ?_)
 exact wpAny_pure ⟨_,rfl,wpAny_pure h⟩
end
section
variable {X:Cx}
end
def Br(K:PySem.W.Frag):V->Option Int->Option Int->Hp->VK->Prop:=fun x lo hi H Q=>∃a xs,x=.ref a/\H a=some (.tup xs)/\∀p H',H' p=some (.tup (dz xs lo hi))->aq H H'->Q (.ref p) H'
section
variable {X:Cx}
theorem fz:B7 X (Br X.K):=by
 intro pins s σ H x v vl vu lo hi sl Q I rx hs pl pu h
 obtain⟨a,xs,rfl,ha0,q⟩:=h
 have ha:bq X.K H a xs:=bq.of ha0
 cases rx
 obtain⟨its,r,ht,hz⟩:=I.tuple ha
 have hlen:its.toArray.size=xs.length:=by rw[FY];exact r.length.symm
 refine⟨"tuple",_,PyProof.Rows.slot_tuple_getitem.lookup,ht.typeIs,?_⟩
 by_cases hw:HT.sIx xs.length 0 lo=0/\HT.sIx xs.length xs.length hi=xs.length
 ·refine iY ht hs pl pu (by rw[hlen];exact hw) ?_
  refine⟨.ref a,H,I,rfl,q a H ?_ (aq.refl _)⟩
  have e:dz xs lo hi=xs:=by unfold dz;rw[hw.1,hw.2,GL,Nat.sub_zero,Gv]
  rw[e];exact ha0
 ·refine HT.getItem_tuple_cut ht hs pl pu (by rw[hlen];exact hw) ?_ (by rw[hlen];exact hz)
  rw[hlen]
  refine⟨.ref s.heap.objs.size,_,I.laid (t':=s.toks) (o:=.tup (dz xs lo hi)) (fun b ob q=>FR _ q) (Gc _) ?_,rfl,q _ _ ac (ad (I.hok.fresh (Gc _)))⟩
  exact⟨Gn (iE xs lo hi) hz,_,(r.drop (HT.sIx xs.length 0 lo)).take (HT.sIx xs.length xs.length hi-HT.sIx xs.length 0 lo),IsTup.new _ _⟩
end
set_option maxRecDepth 8000 in
theorem zB(l b:Addr)(xs ys:Array Value)(n m:Nat)(d:Option Addr)(sl:Array (Option Value))(h0:¬(!xs.isEmpty&&Builtin.List.listTooLong (xs.size+ys.size))=true)(h1:xs.size<=sizeLine)(h2:xs.size+ys.size<=sizeLine+1) :
  Meets (Builtin.«list.extend» ⟨[.ref l,.ref b],[]⟩) (fun _ R s=>s.heap.get? l=some ⟨.type "list",none,.seq xs n,#[]⟩/\s.heap.get? b=some ⟨.type "tuple",d,.seq ys m,sl⟩/\R (.ok (.ret Value.none)) {s with heap:=s.heap.update l (Obj.mapSeq fun x=>x++ys),toks:=s.toks}):=
 .of_wp fun prog w A R s h=>by
  obtain⟨hp,g,dd,tk,os⟩:=s
  obtain⟨hl,hb,h⟩:=h
  have f1:=AutoSeq1.idx_int;have f2:=AutoSeq1.sub_tuple_tuple;have f3:=AutoSeq1.sub_list_list;have f4:=AutoSeq1.sub_tuple_list;have f5:=AutoSeq1.sub_list_tuple
  have hz:(xs++ys).size<=sizeLine+1:=by rw[Array.size_append];exact h2
  wp_walk using(wpAny_updateSeq hl rfl (hz:=h1) (_hz':=hz)),AutoSeq1.wpAny_loadPart' hl,AutoSeq1.wpAny_loadPart' hb
  exact⟨_,rfl,h⟩
def rS(K:PySem.W.Frag):V->List V->Hp->VK->Prop:=fun x vs H Q=>∃l b xs zs,x=.ref l/\vs=[.ref b]/\H l=some (.lst xs)/\bq K H b zs/\xs.length+zs.length<=sizeLine/\Q .non (ap H l (.lst (xs++zs)))
section
variable {X:Cx}
theorem t_:Cb X "list.extend" (rS X.K):=by
 intro pins s σ H x vs v us Q I rx rv h
 obtain⟨l,b,xs,zs,rfl,rfl,hH,hB,hz,q⟩:=h
 cases rx
 obtain⟨u,rfl,ru⟩:=rv.one
 cases ru
 obtain⟨z,its,n,r,hl,e⟩:=I.lstM hH
 obtain⟨its2,r2,ht,hz2⟩:=I.tuple hB
 have hsz:its.toArray.size+its2.toArray.size<=sizeLine:=by
  have l1:=r.length;have l2:=r2.length
  rw[FY,FY];omega
 have hlong:¬ (!its.toArray.isEmpty&&Builtin.List.listTooLong (its.toArray.size+its2.toArray.size))=true:=by
  rw[ng hsz,Bool.and_false]
  exact Gf
 obtain⟨⟨oc,od,oda,os⟩,g1,g2,n2,g3⟩:=ht
 cases g2
 cases g3
 refine call_meets F.slot_list_extend ⟨_,e,rfl⟩ F.entry_list_extend (F.args_list_extend_2 _ _)
  (zB l b its.toArray its2.toArray n n2 od os hlong (by rw[FY];omega) (by omega)) ⟨e,g1,?_⟩
 refine⟨.non,_,I.lset (its':=its++its2) hH e (by simp) (r.append r2) ?_,rfl,q⟩
 rw[Gb]
 omega
end
theorem E_{v:V}{σ:St}{H:Hp}{Q:VK}:b5 0 (some v::σ) H Q=Q v H:=by simp[b5]
theorem Ek{a:Option V}{v:V}{σ:St}{H:Hp}{Q:St->Hp->Prop}:bZ 0 v (a::σ) H Q=Q (some v::σ) H:=rfl
theorem Ec{a0:Option V}{v:V}{σ:St}{H:Hp}{Q:VK}:b5 1 (a0::some v::σ) H Q=Q v H:=by simp[b5]
theorem E6{a0:Option V}{a:Option V}{v:V}{σ:St}{H:Hp}{Q:St->Hp->Prop}:bZ 1 v (a0::a::σ) H Q=Q (a0::some v::σ) H:=rfl
theorem Ew{a0 a1:Option V}{v:V}{σ:St}{H:Hp}{Q:VK}:b5 2 (a0::a1::some v::σ) H Q=Q v H:=by simp[b5]
theorem EY{a0 a1:Option V}{a:Option V}{v:V}{σ:St}{H:Hp}{Q:St->Hp->Prop}:bZ 2 v (a0::a1::a::σ) H Q=Q (a0::a1::some v::σ) H:=rfl
theorem Eb{a0 a1 a2:Option V}{v:V}{σ:St}{H:Hp}{Q:VK}:b5 3 (a0::a1::a2::some v::σ) H Q=Q v H:=by simp[b5]
theorem EN{a0 a1 a2:Option V}{a:Option V}{v:V}{σ:St}{H:Hp}{Q:St->Hp->Prop}:bZ 3 v (a0::a1::a2::a::σ) H Q=Q (a0::a1::a2::some v::σ) H:=rfl
theorem Fc{a0 a1 a2 a3:Option V}{v:V}{σ:St}{H:Hp}{Q:VK}:b5 4 (a0::a1::a2::a3::some v::σ) H Q=Q v H:=by simp[b5]
theorem EG{a0 a1 a2 a3:Option V}{a:Option V}{v:V}{σ:St}{H:Hp}{Q:St->Hp->Prop}:bZ 4 v (a0::a1::a2::a3::a::σ) H Q=Q (a0::a1::a2::a3::some v::σ) H:=rfl
theorem Ej{a0 a1 a2 a3 a4:Option V}{v:V}{σ:St}{H:Hp}{Q:VK}:b5 5 (a0::a1::a2::a3::a4::some v::σ) H Q=Q v H:=by simp[b5]
theorem Fm{a0 a1 a2 a3 a4:Option V}{a:Option V}{v:V}{σ:St}{H:Hp}{Q:St->Hp->Prop}:bZ 5 v (a0::a1::a2::a3::a4::a::σ) H Q=Q (a0::a1::a2::a3::a4::some v::σ) H:=rfl
theorem EQ{a0 a1 a2 a3 a4 a5:Option V}{v:V}{σ:St}{H:Hp}{Q:VK}:b5 6 (a0::a1::a2::a3::a4::a5::some v::σ) H Q=Q v H:=by simp[b5]
theorem Eg{a0 a1 a2 a3 a4 a5:Option V}{a:Option V}{v:V}{σ:St}{H:Hp}{Q:St->Hp->Prop}:bZ 6 v (a0::a1::a2::a3::a4::a5::a::σ) H Q=Q (a0::a1::a2::a3::a4::a5::some v::σ) H:=rfl
theorem Ea{a0 a1 a2 a3 a4 a5 a6:Option V}{v:V}{σ:St}{H:Hp}{Q:VK}:b5 7 (a0::a1::a2::a3::a4::a5::a6::some v::σ) H Q=Q v H:=by simp[b5]
theorem EF{a0 a1 a2 a3 a4 a5 a6:Option V}{a:Option V}{v:V}{σ:St}{H:Hp}{Q:St->Hp->Prop}:bZ 7 v (a0::a1::a2::a3::a4::a5::a6::a::σ) H Q=Q (a0::a1::a2::a3::a4::a5::a6::some v::σ) H:=rfl
theorem E7{a0 a1 a2 a3 a4 a5 a6 a7:Option V}{v:V}{σ:St}{H:Hp}{Q:VK}:b5 8 (a0::a1::a2::a3::a4::a5::a6::a7::some v::σ) H Q=Q v H:=by simp[b5]
theorem Fy{a0 a1 a2 a3 a4 a5 a6 a7:Option V}{a:Option V}{v:V}{σ:St}{H:Hp}{Q:St->Hp->Prop}:bZ 8 v (a0::a1::a2::a3::a4::a5::a6::a7::a::σ) H Q=Q (a0::a1::a2::a3::a4::a5::a6::a7::some v::σ) H:=rfl
theorem D'{a0 a1 a2 a3 a4 a5 a6 a7 a8:Option V}{v:V}{σ:St}{H:Hp}{Q:VK}:b5 9 (a0::a1::a2::a3::a4::a5::a6::a7::a8::some v::σ) H Q=Q v H:=by simp[b5]
theorem FA{a0 a1 a2 a3 a4 a5 a6 a7 a8:Option V}{a:Option V}{v:V}{σ:St}{H:Hp}{Q:St->Hp->Prop}:bZ 9 v (a0::a1::a2::a3::a4::a5::a6::a7::a8::a::σ) H Q=Q (a0::a1::a2::a3::a4::a5::a6::a7::a8::some v::σ) H:=rfl
theorem C8{a0 a1 a2 a3 a4 a5 a6 a7 a8 a9:Option V}{v:V}{σ:St}{H:Hp}{Q:VK}:b5 10 (a0::a1::a2::a3::a4::a5::a6::a7::a8::a9::some v::σ) H Q=Q v H:=by simp[b5]
theorem Cy{a0 a1 a2 a3 a4 a5 a6 a7 a8 a9:Option V}{a:Option V}{v:V}{σ:St}{H:Hp}{Q:St->Hp->Prop}:bZ 10 v (a0::a1::a2::a3::a4::a5::a6::a7::a8::a9::a::σ) H Q=Q (a0::a1::a2::a3::a4::a5::a6::a7::a8::a9::some v::σ) H:=rfl
theorem CC{a0 a1 a2 a3 a4 a5 a6 a7 a8 a9 ku:Option V}{v:V}{σ:St}{H:Hp}{Q:VK}:b5 11 (a0::a1::a2::a3::a4::a5::a6::a7::a8::a9::ku::some v::σ) H Q=Q v H:=by simp[b5]
theorem Du{a0 a1 a2 a3 a4 a5 a6 a7 a8 a9 ku:Option V}{a:Option V}{v:V}{σ:St}{H:Hp}{Q:St->Hp->Prop}:bZ 11 v (a0::a1::a2::a3::a4::a5::a6::a7::a8::a9::ku::a::σ) H Q=Q (a0::a1::a2::a3::a4::a5::a6::a7::a8::a9::ku::some v::σ) H:=rfl
theorem CD{a0 a1 a2 a3 a4 a5 a6 a7 a8 a9 ku mB:Option V}{v:V}{σ:St}{H:Hp}{Q:VK}:b5 12 (a0::a1::a2::a3::a4::a5::a6::a7::a8::a9::ku::mB::some v::σ) H Q=Q v H:=by simp[b5]
theorem Dh{a0 a1 a2 a3 a4 a5 a6 a7 a8 a9 ku mB:Option V}{a:Option V}{v:V}{σ:St}{H:Hp}{Q:St->Hp->Prop}:bZ 12 v (a0::a1::a2::a3::a4::a5::a6::a7::a8::a9::ku::mB::a::σ) H Q=Q (a0::a1::a2::a3::a4::a5::a6::a7::a8::a9::ku::mB::some v::σ) H:=rfl
theorem Cm{a0 a1 a2 a3 a4 a5 a6 a7 a8 a9 ku mB qW:Option V}{v:V}{σ:St}{H:Hp}{Q:VK}:b5 13 (a0::a1::a2::a3::a4::a5::a6::a7::a8::a9::ku::mB::qW::some v::σ) H Q=Q v H:=by simp[b5]
theorem Dy{a0 a1 a2 a3 a4 a5 a6 a7 a8 a9 ku mB qW:Option V}{a:Option V}{v:V}{σ:St}{H:Hp}{Q:St->Hp->Prop}:bZ 13 v (a0::a1::a2::a3::a4::a5::a6::a7::a8::a9::ku::mB::qW::a::σ) H Q=Q (a0::a1::a2::a3::a4::a5::a6::a7::a8::a9::ku::mB::qW::some v::σ) H:=rfl
theorem CP{a0 a1 a2 a3 a4 a5 a6 a7 a8 a9 ku mB qW v4:Option V}{v:V}{σ:St}{H:Hp}{Q:VK}:b5 14 (a0::a1::a2::a3::a4::a5::a6::a7::a8::a9::ku::mB::qW::v4::some v::σ) H Q=Q v H:=by simp[b5]
theorem Dv{a0 a1 a2 a3 a4 a5 a6 a7 a8 a9 ku mB qW v4:Option V}{a:Option V}{v:V}{σ:St}{H:Hp}{Q:St->Hp->Prop}:bZ 14 v (a0::a1::a2::a3::a4::a5::a6::a7::a8::a9::ku::mB::qW::v4::a::σ) H Q=Q (a0::a1::a2::a3::a4::a5::a6::a7::a8::a9::ku::mB::qW::v4::some v::σ) H:=rfl
theorem C5{a0 a1 a2 a3 a4 a5 a6 a7 a8 a9 ku mB qW v4 An:Option V}{v:V}{σ:St}{H:Hp}{Q:VK}:b5 15 (a0::a1::a2::a3::a4::a5::a6::a7::a8::a9::ku::mB::qW::v4::An::some v::σ) H Q=Q v H:=by simp[b5]
theorem Dr{a0 a1 a2 a3 a4 a5 a6 a7 a8 a9 ku mB qW v4 An:Option V}{a:Option V}{v:V}{σ:St}{H:Hp}{Q:St->Hp->Prop}:bZ 15 v (a0::a1::a2::a3::a4::a5::a6::a7::a8::a9::ku::mB::qW::v4::An::a::σ) H Q=Q (a0::a1::a2::a3::a4::a5::a6::a7::a8::a9::ku::mB::qW::v4::An::some v::σ) H:=rfl
theorem xL{K:PySem.W.Frag}{p:Addr}{i:Int}{H:Hp}{Q:VK}:wH K (.ref p) (.int i) H Q = ∃xs,aT K H p xs/\∃v,hZ xs i=some v/\Q v H:=by simp[wH]
theorem xT{K:PySem.W.Frag}{p:Addr}{i:Int}{H:Hp}{Q:VK}:wj K (.ref p) (.int i) H Q = ∃xs,bq K H p xs/\∃v,hZ xs i=some v/\Q v H:=by simp[wj]
theorem Ev{g:Int->Int->V}{i j:Int}{H:Hp}{Q:VK}:yB g (.int i) (.int j) H Q=Q (g i j) H:=by simp[yB]
theorem Eo{C:Int->Int->Prop}{g:Int->Int->V}{i j:Int}{H:Hp}{Q:VK}:rI C g (.int i) (.int j) H Q=(C i j/\Q (g i j) H):=by simp[rI]
theorem C4{a:Addr}{P:Addr->Prop}:(∃p,V.ref a=V.ref p/\P p)=P a:=by simp
theorem Cw{a:Int}{P:Int->Prop}:(∃p,V.int a=V.int p/\P p)=P a:=by simp
theorem CB{a:Bool}{P:Bool->Prop}:(∃p,V.bl a=V.bl p/\P p)=P a:=by simp
theorem C9{a:Str}{P:Str->Prop}:(∃p,V.str a=V.str p/\P p)=P a:=by simp
theorem DJ{α:Type}{a:Addr}{P:Addr->α->Prop}:(∃p,∃x,V.ref a=V.ref p/\P p x) = ∃x,P a x:=by simp
theorem CK{α:Type}{a:Addr}{P:Addr->α->Prop}:(∃p,∃x,[V.ref a]=[V.ref p]/\P p x) = ∃x,P a x:=by simp
theorem Dc{α:Type}{a:Addr}{v:V}{P:Addr->α->V->Prop}:(∃p,∃x,∃y,V.ref a=V.ref p/\[v]=[y]/\P p x y) = ∃x,P a x v:=by simp
theorem Di{α β:Type}{a b:Addr}{P:Addr->Addr->α->β->Prop}:(∃p,∃q,∃x,∃y,V.ref a=V.ref p/\V.ref b=V.ref q/\P p q x y) = ∃x,∃y,P a b x y:=by simp
end L2
set_option maxHeartbeats 4000000
namespace Q17
open PySem L2 bS QL
local macro_rules | `(tactic| walk_at "wp")=>`(tactic| (try simp only[tM,tB,Al,zU,BS,zI,xO,Ca,A_,xU,AU,tC,AR,D9,xV,B4,BE,DQ,Aq,z_,xZ,tu,uF,BM,zP,zX,Br,zY,BW,Am,zR,sr,zT,u8,rS,Bt,zV,yx,BP,BN,x9,sw,sW,Af,Ap,BX,uA,uJ,Ag,qI,Ab,uV,B_,BY,DG,j9,qK,pj,D7,y4,AB,rU,D0,DX,BI,DZ,uX,Ae,Bw,Dk,wW,ux,BQ,zS,zQ,Ad,B6,Bq,BH,xA,zW,rm,uz,L2.start,Gk,List.map_nil,F2,List.length_nil,List.replicate,List.cons_append,GE,Gq,Nat.reduceAdd,Nat.reduceSub,List.getElem?_cons_zero,Gj,List.set_cons_zero,List.set_cons_succ,Option.some.injEq,V.int.injEq,V.str.injEq,V.ref.injEq,V.bl.injEq,List.cons.injEq,and_true,true_and,exists_and_left,exists_eq_left',exists_eq_left,decide_eq_true_eq,Bool.not_eq_true',decide_eq_false_iff_not,fq,Cx.blk,vf,vi,sV,A7,Option.join_some,Nat.succ_eq_add_one,Nat.zero_add,exists_const,and_assoc,exists_eq,exists_eq',xP,xK,Int.reducePow,Int.reduceNeg,Int.reduceLT,or_true,true_or,reduceCtorEq,Int.zero_add,↓reduceIte,Bool.false_eq_true,Bool.not_true,Bool.not_false,Cx.wish,Cx.nox,↓E_,↓Ek,↓Ec,↓E6,↓Ew,↓EY,↓Eb,↓EN,↓Fc,↓EG,↓Ej,↓Fm,↓EQ,↓Eg,↓Ea,↓EF,↓E7,↓Fy,↓D',↓FA,↓C8,↓Cy,↓CC,↓Du,↓CD,↓Dh,↓Cm,↓Dy,↓CP,↓Dv,↓C5,↓Dr,↓xL,↓xT,↓Ev,↓Eo,↓C4,↓Cw,↓CB,↓C9,↓DJ,↓CK,↓Dc,↓Di];try simp only[bZ,b5,yB,rI,wH,wj,Gk,List.map_nil,F2,List.length_nil,List.replicate,List.cons_append,GE,Gq,Nat.reduceAdd,Nat.reduceSub,List.getElem?_cons_zero,Gj,List.set_cons_zero,List.set_cons_succ,Option.some.injEq,V.int.injEq,V.str.injEq,V.ref.injEq,V.bl.injEq,List.cons.injEq,and_true,true_and,exists_and_left,exists_eq_left',exists_eq_left,decide_eq_true_eq,Bool.not_eq_true',decide_eq_false_iff_not,vf,vi,Option.join_some,Nat.succ_eq_add_one,Nat.zero_add,exists_const,and_assoc,exists_eq,exists_eq',xP,xK,Int.reducePow,Int.reduceNeg,Int.reduceLT,or_true,true_or,reduceCtorEq,Int.zero_add,↓reduceIte,Bool.false_eq_true,Bool.not_true,Bool.not_false]))
set_option hygiene false in
local macro_rules|`(tactic|walk_at "nc")=>`(tactic|(clear h1;refine ai fun N1 h1=>?_;walk_at "wp"))
set_option hygiene false in
local macro_rules|`(tactic|walk_at "n")=>`(tactic|(refine ai fun N1 h1=>?_;walk_at "wp"))
set_option hygiene false in
local macro_rules|`(tactic|walk_at "o")=>`(tactic|(refine ai fun N2 h2=>?_;walk_at "wp"))
set_option hygiene false in
local macro_rules|`(tactic|walk_at "f")=>`(tactic|refine F.ok sc (fun vs H Q E h=>?_) (fun cdv A outer s H vs Q E hr h=>?_))
set_option hygiene false in
local macro_rules|`(tactic|walk_at "x")=>`(tactic|refine F.okX sc (fun vs H Q E h=>?_) (fun cdv A outer s H vs Q E hr h=>?_))
set_option hygiene false in
local macro_rules|`(tactic|walk_at "c")=>`(tactic|exact⟨rfl,rfl,rfl,by decide +kernel,rfl,by decide +kernel,by decide +kernel⟩)
def h7(i:Nat):Stmt:=PySem.Challenge.pw_quiltlaw_k17_trees_written_and_read.main.body.getD i (.Pass ⟨0,0,0,0⟩)
def zF:Stmt->List Stmt
 | .ClassDef (body:=b) ..=>b
 |_=>[]
def nc(i j:Nat):Stmt:=(zF (h7 i)).getD j (.Pass ⟨0,0,0,0⟩)
section
variable {P:Program}{w:World}{K:W.Frag}{mg:Str->Option Value}{base:Heap}
abbrev BV(z:Str)(c:Nat):Bool:=!(Builtin.Str.occurrences z ⟨#[c]⟩ 0 z.length 1).isEmpty
abbrev kI:Stmt:=h7 28
def fZ(r:List Nat)(z:Str):Bool:=r.all (BV z)
def gy:Sp:=fun vs H Q _=>∃(r:List Nat) (z:Str),vs=[.str (tx r),.str z]/\r.length<=100000/\∀H',aq H H'->Q (.bl (fZ r z)) H'
theorem tK:aI ["text","letters"] ["text","letters"] (ao kI):=by walk_at "c"
theorem EL{r:List Nat}{i c:Nat}(h:(tx r).cps[i]?=some c):r[i]?=some c:=by
 rw[<- h]
 show r[i]?=r.toArray[i]?
 simp
theorem CH(r:List Nat):(tx r).cps.size=r.length:=by show r.toArray.size=_;simp
theorem sQ{f:Addr}{fd:FuncData}(F:d9 K "only_of" "only_of" kI f fd)(nb:NB mg):bb P w K mg base bL 1 f fd ["text","letters"] gy:=by
 have sc:=tK
 walk_at "f"
 ·obtain⟨r,z,rfl,_⟩:=h;rfl
 ·obtain⟨r,z,rfl,hr',q⟩:=h
  refine⟨_,(ah (aL (au (xj rfl) rfl nb.all Bj (aa (cF ["sign"] [1] rfl (bz.of (by kernel_rfl)) (by kernel_rfl) (Bd (pv 0))
    (fun _ _ _ _=>(aF (i:=0) (by show(["sign","letters"]:List Str).Nodup;decide +kernel) rfl (Or.inl rfl))) (fun _ _ _ _=>bU) (fun _ _ _ _=>(qp wy (pv 0) (pv 1) (by with_unfolding_all rfl)))) ae)))),?_⟩
  walk_at "wp"
  refine xz (x:=tx r) (fun i acc σ H'=>H'=H/\acc=((r.take i).map (BV z)).map V.bl/\i<=r.length/\∃x,σ=[x,some (.str z)]) ⟨rfl,rfl,Gd _,_,rfl⟩ ?_ ?_ ?_ ?_
  ·rintro i acc σ H' ⟨_,rfl,hi,_⟩
   rw[FS,FS,Gw];exact bw (by omega)
  ·rintro i acc σ H' ⟨_,_,h,_⟩
   rw[CH];exact h
  ·rintro i c acc σ H' hc ⟨rfl,rfl,hi,y,rfl⟩
   have hc':=EL hc
   have hi':=(FQ.mp hc').1
   walk_at "wp"
   refine⟨?_,hi'⟩
   rw[List.take_add_one,hc']
   simp
  ·rintro acc σ H' ⟨rfl,rfl,_⟩ l hl
   refine⟨_,aT.of ac,?_⟩
   rw[CH,Gv]
   have e:(r.map (BV z)).all id=fZ r z:=by unfold fZ;rw[List.all_map];rfl
   rw[e]
   exact q _ (ad hl)
abbrev lz:Stmt:=h7 29
abbrev AG:Str:="ABCDEFGHIJKLMNOPQRSTUVWXYZ"
def cz(r:List Nat):Bool:=decide (1<=r.length)&&decide (r.length<=4)&&fZ r AG
def jm:Sp:=fun vs H Q _=>∃(r:List Nat),vs=[.str (tx r)]/\r.length<=100000/\∀H',aq H H'->Q (.bl (cz r)) H'
theorem tm:aI ["text"] ["text"] (ao lz):=by walk_at "c"
theorem uf{f:Addr}{fd:FuncData}{t1 t2:Tok}(F:d9 K "is_name" "is_name" lz f fd)(nb:NB mg)(m_LONGEST_NAME:mg "LONGEST_NAME"=some (.int 4 t1))(m_CAPITALS:mg "CAPITALS"=some (.str "ABCDEFGHIJKLMNOPQRSTUVWXYZ" t2))(c_only_of:fP P w K mg base bL 1 "only_of" ["text","letters"] gy):bb P w K mg base bL 2 f fd ["text"] jm:=by
 have sc:=tm
 walk_at "f"
 ·obtain⟨r,rfl,_⟩:=h;rfl
 ·obtain⟨r,rfl,hr',q⟩:=h
  refine⟨_,(ah (aL (mF (rN nQ nQ ag (au bo rfl nb.len aR (aa (pv 0) ae)) (dJ (v:=.int 4) rfl m_LONGEST_NAME ⟨_,rfl⟩)) (qm (aP c_only_of (hr.mono (by decide)) rfl a_ (aa (pv 0) (aa (dJ (v:=.str "ABCDEFGHIJKLMNOPQRSTUVWXYZ") rfl m_CAPITALS ⟨_,rfl⟩) ae))))))),?_⟩
  walk_at "wp"
  refine⟨by rw[aA];exact ak (by omega),?_⟩
  rw[aA]
  unfold cz at q
  by_cases h1:1<=r.length
  ·rw[if_pos (by omega)]
   by_cases h2:r.length<=4
   ·rw[if_pos (by omega)]
    refine⟨r,_,rfl,hr',fun H' sm=>?_⟩
    have z:=q H' sm
    rw[decide_eq_true h1,decide_eq_true h2]at z
    exact z
   ·rw[if_neg (by omega)]
    have z:=q H (fun _ _ e=>e)
    rw[decide_eq_true h1,decide_eq_false h2]at z
    exact z
  ·rw[if_neg (by omega)]
   have z:=q H (fun _ _ e=>e)
   rw[decide_eq_false h1]at z
   exact z
abbrev dh:Stmt:=nc 30 0
def cH(K:W.Frag)(CF:Addr):Sp:=fun vs H Q E=>∃(a C dx l:Addr) (n:List Nat) (c:Int) (ps:bS),vs=[.ref a,.str (tx n),.int c,.ref l]/\H a=some (.ins C dx [])/\oj K C/\aE K C "name"/\aE K C "cost"/\aE K C "part_names"/\H l=some (.lst (az ps)) /\
 ps.length<=1000/\(∀r∈n::ps,r.length<=100000) /\
 ((∀r∈n::ps,cz r=true)/\1<=c/\c<=9->∀H',aq H H'->Q .non (ap H' a (.ins C dx [("name",.str (tx n)),("cost",.int c),("part_names",.ref l)]))) /\
 (¬ ((∀r∈n::ps,cz r=true)/\1<=c/\c<=9)->∀H',aq H H'->E (.ref CF) none H')
theorem qd:aI ["self","name","cost","part_names","text"] ["self","name","cost","part_names"] (ao dh):=by walk_at "c"
theorem qU{f zfa:Addr}{fd:FuncData}(F:d9 K "__init__" "Rule.__init__" dh f fd)(nb:NB mg)(zva:mg "NoRule"=some (.ref zfa))(zra:XR K zfa)(c_is_name:fP P w K mg base bL 2 "is_name" ["text"] jm):bb P w K mg base (dP P w) 3 f fd ["self","name","cost","part_names"] (cH K zfa):=by
 have sc:=qd
 walk_at "x"
 ·obtain⟨a,C,dx,l,n,c,ps,rfl,_⟩:=h;rfl
 ·obtain⟨a,C,dx,l,n,c,ps,rfl,ha,cl,n1,n2,n3,hl,hpl,hrl,good,bad⟩:=h
  refine⟨_,(af (bD PassesOwn.leaving rfl (cC (am tO (bf (aa (pv 1) ae)) (pv 3))) (aF (i:=4) sc.nd rfl (Or.inl rfl))
   (ah (bd (gN (iq (aP (CX:=dP P w) c_is_name.lift (hr.mono (by decide)) rfl bJ (aa (pv 4) ae)) fun _=>rfl))
   (ah (iS zra rfl rfl zva (j2 fun _ _ _ h=>h) (bB ae)))
   aM)))
   (af (bd (PW.pt (g9 (aB nM (pv 2) ag (aK _)) (fQ (aB hJ (pv 2) ag (aK _)))))
   (ah (iS zra rfl rfl zva (j2 fun _ _ _ h=>h) (bB ae)))
   aM)
   (af (du (pv 0) (pv 1) rfl)
   (af (du (pv 0) (pv 2) rfl)
   (ah (du (pv 0) (pv 3) rfl)))))),?_⟩
  walk_at "wp"
  refine⟨ak (by omega),fun p hp=>?_⟩
  have m1:aq H (ap H p (.lst [V.str (tx n)])):=ad hp
  have e1:ap H p (.lst [V.str (tx n)]) p=some (.lst [V.str (tx n)]):=ac
  generalize ap H p (.lst [V.str (tx n)])=H1 at m1 e1 ⊢
  refine⟨_,e1,_,m1 _ _ hl,by rw[aJ];exact ak (by simp;omega),fun p2 hp2=>?_⟩
  have e12:[V.str (tx n)]++az ps=az (n::ps):=rfl
  rw[e12]
  have m2:aq H1 (ap H1 p2 (.lst (az (n::ps)))):=ad hp2
  have e2:ap H1 p2 (.lst (az (n::ps))) p2=some (.lst (az (n::ps))):=ac
  generalize ap H1 p2 (.lst (az (n::ps)))=H2 at m2 e2 ⊢
  generalize hqs:n::ps=qs at hrl good bad e2 ⊢
  have m02:=m1.trans m2
  refine⟨⟨_,aT.of e2⟩,fT (xs:=az qs) (fun i σ H'=>aq H2 H'/\(∀r∈qs.take i,cz r=true)/\∃x,σ=[some (.ref a),some (.str (tx n)),some (.int c),some (.ref l),x]) ⟨fun _ _ e=>e,by simp,_,rfl⟩ (fun i σ H' _ h=>aT.of (h.1 _ _ e2)) ?_ ?_⟩
  ·rintro i v σ H' hv ⟨sm,hok,x,rfl⟩
   have hi:i<qs.length:=by have:=(FQ.mp hv).1;rwa [aJ]at this
   rw[bI hi]at hv
   cases hv
   walk_at "wp"
   refine⟨_,rfl,hrl _ (FZ hi),fun H3 sm3=>⟨_,rfl,?_⟩⟩
   by_cases hb:cz qs[i]=true
   ·rw[if_neg (by rw[hb];decide)]
    refine⟨sm.trans sm3,fun r hr=>?_⟩
    rw[List.take_add_one,FP hi]at hr
    rcases F4.mp hr with h | h
    ·exact hok r h
    ·rw[show r=qs[i] by simpa using h];exact hb
   ·rw[if_pos (by simpa using hb)]
    exact⟨ak (by omega),bad (fun h=>hb (h.1 _ (FZ hi))) _ ((m02.trans sm).trans sm3)⟩
  ·rintro σ H' ⟨sm,hok,x,rfl⟩
   rw[aJ,Gv]at hok
   have smH:=m02.trans sm
   walk_at "wp"
   by_cases c1:c<1
   ·rw[if_pos c1]
    exact⟨ak (by omega),bad (fun h=>by omega) _ smH⟩
   ·rw[if_neg c1]
    by_cases c9:9<c
    ·rw[if_pos c9]
     exact⟨ak (by omega),bad (fun h=>by omega) _ smH⟩
    ·rw[if_neg c9]
     have g:=good ⟨hok,by omega,by omega⟩ H' smH
     have l1:(cg "name" (V.str (tx n)) []).length<=1:=ck _ _ _
     have l2:(cg "cost" (V.int c) (cg "name" (V.str (tx n)) [])).length<=2:=Gn (ck _ _ _) (by omega)
     have d1:¬ (("name":Str)="cost"):=by decide +kernel
     have d2:¬ (("name":Str)="part_names"):=by decide +kernel
     have d3:¬ (("cost":Str)="part_names"):=by decide +kernel
     have e:cg "part_names" (V.ref l) (cg "cost" (V.int c) (cg "name" (V.str (tx n)) []))=[(("name":Str),V.str (tx n)),(("cost":Str),V.int c),(("part_names":Str),V.ref l)]:=by
      simp only[cg,if_neg d1,if_neg d2,if_neg d3]
     refine⟨C,dx,[],smH _ _ ha,cl,n1,by simp,C,dx,_,ac,cl,n2,by omega,C,dx,_,ac,cl,n3,by omega,?_⟩
     rw[jV,jV,e]
     exact g
def bG(a:Addr)(H H':Hp):Prop:=∀b o,b≠a->H b=some o->H' b=some o
theorem bG.of{a:Addr}{H H':Hp}(s:aq H H'):bG a H H':=fun b o _ e=>s b o e
theorem bG.put{a:Addr}{H H':Hp}{o:HO}(s:bG a H H'):bG a H (ap H' a o):=fun b u hb e=>by rw[aj hb];exact s b u hb e
theorem bG.then{a:Addr}{H H' H2:Hp}(s:bG a H H')(t:aq H' H2):bG a H H2:=fun b u hb e=>t b u (s b u hb e)
abbrev A':Str:="abcdefghijklmnopqrstuvwxyz"
def gZ(r:List Nat):Bool:=decide (r.length=1)&&fZ r A'
def fF(n:List Nat)(ps:bS)(c:Int):Prop:=(∀r∈n::ps,cz r=true)/\1<=c/\c<=9
abbrev c_:Stmt:=nc 31 0
def gR(K:W.Frag)(CF:Addr):Sp:=fun vs H Q E=>∃(a C dx:Addr) (n sg:List Nat) (c:Int),vs=[.ref a,.str (tx n),.int c,.str (tx sg)]/\H a=some (.ins C dx [])/\oj K C/\(aE K C "name"/\aE K C "cost"/\aE K C "part_names"/\aE K C "sign")/\n.length<=100000/\sg.length<=100000 /\
 (fF n [] c/\gZ sg=true->∀(l:Addr) (H':Hp),bG a H H'->H l=none->H' l=some (.lst [])->H' a=some (.ins C dx [("name",.str (tx n)),("cost",.int c),("part_names",.ref l),("sign",.str (tx sg))])->Q .non H') /\
 (¬ (fF n [] c/\gZ sg=true)->∀H',bG a H H'->E (.ref CF) none H')
theorem qH:aI ["self","name","cost","sign"] ["self","name","cost","sign"] (ao c_):=by walk_at "c"
theorem qG{f zfa:Addr}{fd:FuncData}{t3:Tok}(F:d9 K "__init__" "CellRule.__init__" c_ f fd)(nb:NB mg)(m_SMALLS:mg "SMALLS"=some (.str "abcdefghijklmnopqrstuvwxyz" t3))(zva:mg "NoRule"=some (.ref zfa))(zra:XR K zfa)
  (c_only_of:fP P w K mg base bL 1 "only_of" ["text","letters"] gy) (zha:v9 P w K mg base (dP P w) 3 "Rule" "__init__" ["self","name","cost","part_names"] (cH K zfa)):bb P w K mg base (dP P w) 4 f fd ["self","name","cost","sign"] (gR K zfa):=by
 have sc:=qH
 walk_at "x"
 ·obtain⟨a,C,dx,n,sg,c,rfl,_⟩:=h;rfl
 ·obtain⟨a,C,dx,n,sg,c,rfl,ha,cl,⟨n1,n2,n3,n4⟩,hn,hsg,good,bad⟩:=h
  refine⟨_,(af (bE (mq (E:=E) zha (hr.mono (by decide)) rfl (fX fun _ _ _ h=>h) (aa (pv 0) (aa (pv 1) (aa (pv 2) (aa (bf ae) ae))))))
   (af (bd (PW.pt (g9 (aB uO (au bo rfl nb.len aR (aa (pv 3) ae)) ag (aK _)) (fQ (gN (iq (aP (CX:=dP P w) c_only_of.lift (hr.mono (by decide)) rfl bJ (aa (pv 3) (aa (dJ (v:=.str "abcdefghijklmnopqrstuvwxyz") rfl m_SMALLS ⟨_,rfl⟩) ae))) fun _=>rfl)))))
   (ah (iS zra rfl rfl zva (j2 fun _ _ _ h=>h) (bB ae)))
   aM)
   (ah (du (pv 0) (pv 3) rfl)))),?_⟩
  walk_at "wp"
  refine⟨Gd _,fun l hl=>?_⟩
  have m1:aq H (ap H l (.lst [])):=ad hl
  have e1:ap H l (.lst []) l=some (.lst []):=ac
  generalize ap H l (.lst [])=H1 at m1 e1 ⊢
  have hla:l≠a:=fun e=>by rw[e,ha]at hl;cases hl
  refine⟨a,C,dx,l,n,c,[],rfl,m1 _ _ ha,cl,n1,n2,n3,e1,by simp,fun r hr=>by rw[show r=n by simpa using hr];exact hn,fun ok H2 sm2=>?_,fun nok H2 sm2=>bad (fun h=>nok h.1) _ (.of (m1.trans sm2))⟩
  have sx:bG a H (ap H2 a (.ins C dx [("name",.str (tx n)),("cost",.int c),("part_names",.ref l)])):=(bG.of (m1.trans sm2)).put
  have ea:ap H2 a (.ins C dx [("name",.str (tx n)),("cost",.int c),("part_names",.ref l)]) a=some (.ins C dx [("name",.str (tx n)),("cost",.int c),("part_names",.ref l)]):=ac
  have el:ap H2 a (.ins C dx [("name",.str (tx n)),("cost",.int c),("part_names",.ref l)]) l=some (.lst []):=by rw[aj hla];exact sm2 _ _ e1
  generalize ap H2 a (.ins C dx [("name",.str (tx n)),("cost",.int c),("part_names",.ref l)])=H3 at sx ea el ⊢
  dsimp only
  have sgl:gZ sg=true->sg.length=1/\fZ sg A'=true:=fun h=>by
   unfold gZ at h
   rw[Bool.and_eq_true,decide_eq_true_eq]at h
   exact h
  refine⟨by rw[aA];exact ak (by omega),?_⟩
  rw[aA]
  by_cases h1:(sg.length:Int)=1
  ·rw[if_neg (fun h=>h h1)]
   refine⟨sg,_,rfl,hsg,fun H4 sm4=>⟨_,rfl,?_⟩⟩
   by_cases hb:fZ sg A'=true
   ·rw[if_neg (by rw[hb];decide)]
    have d1:¬ (("name":Str)="sign"):=by decide +kernel
    have d2:¬ (("cost":Str)="sign"):=by decide +kernel
    have d3:¬ (("part_names":Str)="sign"):=by decide +kernel
    have e:cg "sign" (V.str (tx sg)) [(("name":Str),V.str (tx n)),(("cost":Str),V.int c),(("part_names":Str),V.ref l)]=[(("name":Str),V.str (tx n)),(("cost":Str),V.int c),(("part_names":Str),V.ref l),(("sign":Str),V.str (tx sg))]:=by
     simp only[cg,if_neg d1,if_neg d2,if_neg d3]
    refine⟨C,dx,_,sm4 _ _ ea,cl,n4,by simp,?_⟩
    rw[e]
    exact good ⟨ok,by unfold gZ;rw[decide_eq_true (by omega),hb];rfl⟩ l _ (sx.then sm4).put hl (by rw[aj hla];exact sm4 _ _ el) ac
   ·rw[if_pos (by simpa using hb)]
    exact⟨ak (by omega),bad (fun h=>hb (sgl h.2).2) _ (sx.then sm4)⟩
  ·rw[if_pos h1]
   exact⟨ak (by omega),bad (fun h=>h1 (by have:=(sgl h.2).1;omega)) _ sx⟩
def cD(K:W.Frag)(CF:Addr):Sp:=fun vs H Q E=>∃(a C dx:Addr) (n o1 o2:List Nat) (c:Int),vs=[.ref a,.str (tx n),.int c,.str (tx o1),.str (tx o2)]/\H a=some (.ins C dx [])/\oj K C/\(aE K C "name"/\aE K C "cost"/\aE K C "part_names"/\aE K C "one"/\aE K C "other")/\n.length<=100000/\o1.length<=100000/\o2.length<=100000 /\
 (fF n [o1,o2] c->∀(l:Addr) (H':Hp),bG a H H'->H l=none->H' l=some (.lst (az [o1,o2]))->H' a=some (.ins C dx [("name",.str (tx n)),("cost",.int c),("part_names",.ref l),("one",.str (tx o1)),("other",.str (tx o2))])->Q .non H') /\
 (¬ fF n [o1,o2] c->∀H',bG a H H'->E (.ref CF) none H')
theorem sh{n o1 o2:List Nat}{c:Int}{l:Addr}:cg "other" (V.str (tx o2)) (cg "one" (V.str (tx o1)) [(("name":Str),V.str (tx n)),(("cost":Str),V.int c),(("part_names":Str),V.ref l)])=[(("name":Str),V.str (tx n)),(("cost":Str),V.int c),(("part_names":Str),V.ref l),(("one":Str),V.str (tx o1)),(("other":Str),V.str (tx o2))]:=by
 have d1:¬ (("name":Str)="one"):=by decide +kernel
 have d2:¬ (("cost":Str)="one"):=by decide +kernel
 have d3:¬ (("part_names":Str)="one"):=by decide +kernel
 have d4:¬ (("name":Str)="other"):=by decide +kernel
 have d5:¬ (("cost":Str)="other"):=by decide +kernel
 have d6:¬ (("part_names":Str)="other"):=by decide +kernel
 have d7:¬ (("one":Str)="other"):=by decide +kernel
 simp only[cg,if_neg d1,if_neg d2,if_neg d3,if_neg d4,if_neg d5,if_neg d6,if_neg d7]
abbrev b8:Stmt:=nc 32 0
theorem nJ:aI ["self","name","cost","one","other"] ["self","name","cost","one","other"] (ao b8):=by walk_at "c"
theorem nI{f zfa:Addr}{fd:FuncData}(F:d9 K "__init__" "BesideRule.__init__" b8 f fd)(nb:NB mg)
  (zha:v9 P w K mg base (dP P w) 3 "Rule" "__init__" ["self","name","cost","part_names"] (cH K zfa)):bb P w K mg base (dP P w) 4 f fd ["self","name","cost","one","other"] (cD K zfa):=by
 have sc:=nJ
 walk_at "x"
 ·obtain⟨a,C,dx,n,o1,o2,c,rfl,_⟩:=h;rfl
 ·obtain⟨a,C,dx,n,o1,o2,c,rfl,ha,cl,⟨n1,n2,n3,n4,n5⟩,hn,ho1,ho2,good,bad⟩:=h
  refine⟨_,(af (bE (mq (E:=E) zha (hr.mono (by decide)) rfl (fX fun _ _ _ h=>h) (aa (pv 0) (aa (pv 1) (aa (pv 2) (aa (bf (aa (pv 3) (aa (pv 4) ae))) ae))))))
   (af (du (pv 0) (pv 3) rfl)
   (ah (du (pv 0) (pv 4) rfl)))),?_⟩
  walk_at "wp"
  refine⟨ak (by omega),fun l hl=>?_⟩
  have m1:aq H (ap H l (.lst [V.str (tx o1),V.str (tx o2)])):=ad hl
  have e1:ap H l (.lst [V.str (tx o1),V.str (tx o2)]) l=some (.lst (az [o1,o2])):=ac
  generalize ap H l (.lst [V.str (tx o1),V.str (tx o2)])=H1 at m1 e1 ⊢
  have hla:l≠a:=fun e=>by rw[e,ha]at hl;cases hl
  refine⟨a,C,dx,l,n,c,[o1,o2],rfl,m1 _ _ ha,cl,n1,n2,n3,e1,by simp,fun r hr=>?_,fun ok H2 sm2=>?_,fun nok H2 sm2=>bad (fun h=>nok h) _ (.of (m1.trans sm2))⟩
  ·have h3:r=n\/r=o1\/r=o2:=by simpa using hr
   rcases h3 with rfl | rfl | rfl
   ·exact hn
   ·exact ho1
   ·exact ho2
  ·have sx:bG a H (ap H2 a (.ins C dx [("name",.str (tx n)),("cost",.int c),("part_names",.ref l)])):=(bG.of (m1.trans sm2)).put
   have ea:ap H2 a (.ins C dx [("name",.str (tx n)),("cost",.int c),("part_names",.ref l)]) a=some (.ins C dx [("name",.str (tx n)),("cost",.int c),("part_names",.ref l)]):=ac
   have el:ap H2 a (.ins C dx [("name",.str (tx n)),("cost",.int c),("part_names",.ref l)]) l=some (.lst (az [o1,o2])):=by rw[aj hla];exact sm2 _ _ e1
   generalize ap H2 a (.ins C dx [("name",.str (tx n)),("cost",.int c),("part_names",.ref l)])=H3 at sx ea el ⊢
   dsimp only
   refine⟨C,dx,_,ea,cl,n4,by simp,C,dx,_,ac,cl,n5,?_,?_⟩
   ·exact Gy (ck _ _ _) (by simp)
   ·rw[jV,sh]
    exact good ok l _ sx.put hl (by rw[aj hla];exact el) ac
abbrev cE:Stmt:=nc 33 0
theorem oi:aI ["self","name","cost","one","other"] ["self","name","cost","one","other"] (ao cE):=by walk_at "c"
theorem n_{f zfa:Addr}{fd:FuncData}(F:d9 K "__init__" "AboveRule.__init__" cE f fd)(nb:NB mg)
  (zha:v9 P w K mg base (dP P w) 3 "Rule" "__init__" ["self","name","cost","part_names"] (cH K zfa)):bb P w K mg base (dP P w) 4 f fd ["self","name","cost","one","other"] (cD K zfa):=by
 have sc:=oi
 walk_at "x"
 ·obtain⟨a,C,dx,n,o1,o2,c,rfl,_⟩:=h;rfl
 ·obtain⟨a,C,dx,n,o1,o2,c,rfl,ha,cl,⟨n1,n2,n3,n4,n5⟩,hn,ho1,ho2,good,bad⟩:=h
  refine⟨_,(af (bE (mq (E:=E) zha (hr.mono (by decide)) rfl (fX fun _ _ _ h=>h) (aa (pv 0) (aa (pv 1) (aa (pv 2) (aa (bf (aa (pv 3) (aa (pv 4) ae))) ae))))))
   (af (du (pv 0) (pv 3) rfl)
   (ah (du (pv 0) (pv 4) rfl)))),?_⟩
  walk_at "wp"
  refine⟨ak (by omega),fun l hl=>?_⟩
  have m1:aq H (ap H l (.lst [V.str (tx o1),V.str (tx o2)])):=ad hl
  have e1:ap H l (.lst [V.str (tx o1),V.str (tx o2)]) l=some (.lst (az [o1,o2])):=ac
  generalize ap H l (.lst [V.str (tx o1),V.str (tx o2)])=H1 at m1 e1 ⊢
  have hla:l≠a:=fun e=>by rw[e,ha]at hl;cases hl
  refine⟨a,C,dx,l,n,c,[o1,o2],rfl,m1 _ _ ha,cl,n1,n2,n3,e1,by simp,fun r hr=>?_,fun ok H2 sm2=>?_,fun nok H2 sm2=>bad (fun h=>nok h) _ (.of (m1.trans sm2))⟩
  ·have h3:r=n\/r=o1\/r=o2:=by simpa using hr
   rcases h3 with rfl | rfl | rfl
   ·exact hn
   ·exact ho1
   ·exact ho2
  ·have sx:bG a H (ap H2 a (.ins C dx [("name",.str (tx n)),("cost",.int c),("part_names",.ref l)])):=(bG.of (m1.trans sm2)).put
   have ea:ap H2 a (.ins C dx [("name",.str (tx n)),("cost",.int c),("part_names",.ref l)]) a=some (.ins C dx [("name",.str (tx n)),("cost",.int c),("part_names",.ref l)]):=ac
   have el:ap H2 a (.ins C dx [("name",.str (tx n)),("cost",.int c),("part_names",.ref l)]) l=some (.lst (az [o1,o2])):=by rw[aj hla];exact sm2 _ _ e1
   generalize ap H2 a (.ins C dx [("name",.str (tx n)),("cost",.int c),("part_names",.ref l)])=H3 at sx ea el ⊢
   dsimp only
   refine⟨C,dx,_,ea,cl,n4,by simp,C,dx,_,ac,cl,n5,?_,?_⟩
   ·exact Gy (ck _ _ _) (by simp)
   ·rw[jV,sh]
    exact good ok l _ sx.put hl (by rw[aj hla];exact el) ac
def gY(K:W.Frag)(CF:Addr):Sp:=fun vs H Q E=>∃(a C dx:Addr) (n o1:List Nat) (c t:Int),vs=[.ref a,.str (tx n),.int c,.str (tx o1),.int t]/\H a=some (.ins C dx [])/\oj K C/\(aE K C "name"/\aE K C "cost"/\aE K C "part_names"/\aE K C "part"/\aE K C "turning")/\n.length<=100000/\o1.length<=100000 /\
 (fF n [o1] c/\0<=t/\t<=7->∀(l:Addr) (H':Hp),bG a H H'->H l=none->H' l=some (.lst (az [o1]))->H' a=some (.ins C dx [("name",.str (tx n)),("cost",.int c),("part_names",.ref l),("part",.str (tx o1)),("turning",.int t)])->Q .non H') /\
 (¬ (fF n [o1] c/\0<=t/\t<=7)->∀H',bG a H H'->E (.ref CF) none H')
theorem w_{n o1:List Nat}{c t:Int}{l:Addr}:cg "turning" (V.int t) (cg "part" (V.str (tx o1)) [(("name":Str),V.str (tx n)),(("cost":Str),V.int c),(("part_names":Str),V.ref l)])=[(("name":Str),V.str (tx n)),(("cost":Str),V.int c),(("part_names":Str),V.ref l),(("part":Str),V.str (tx o1)),(("turning":Str),V.int t)]:=by
 have d1:¬ (("name":Str)="part"):=by decide +kernel
 have d2:¬ (("cost":Str)="part"):=by decide +kernel
 have d3:¬ (("part_names":Str)="part"):=by decide +kernel
 have d4:¬ (("name":Str)="turning"):=by decide +kernel
 have d5:¬ (("cost":Str)="turning"):=by decide +kernel
 have d6:¬ (("part_names":Str)="turning"):=by decide +kernel
 have d7:¬ (("part":Str)="turning"):=by decide +kernel
 simp only[cg,if_neg d1,if_neg d2,if_neg d3,if_neg d4,if_neg d5,if_neg d6,if_neg d7]
abbrev dk:Stmt:=nc 34 0
theorem qR:aI ["self","name","cost","part","turning"] ["self","name","cost","part","turning"] (ao dk):=by walk_at "c"
theorem pN{f zfa:Addr}{fd:FuncData}(F:d9 K "__init__" "TurnRule.__init__" dk f fd)(nb:NB mg)(zva:mg "NoRule"=some (.ref zfa))(zra:XR K zfa)
  (zha:v9 P w K mg base (dP P w) 3 "Rule" "__init__" ["self","name","cost","part_names"] (cH K zfa)):bb P w K mg base (dP P w) 4 f fd ["self","name","cost","part","turning"] (gY K zfa):=by
 have sc:=qR
 walk_at "x"
 ·obtain⟨a,C,dx,n,o1,c,t,rfl,_⟩:=h;rfl
 ·obtain⟨a,C,dx,n,o1,c,t,rfl,ha,cl,⟨n1,n2,n3,n4,n5⟩,hn,ho1,good,bad⟩:=h
  refine⟨_,(af (bE (mq (E:=E) zha (hr.mono (by decide)) rfl (fX fun _ _ _ h=>h) (aa (pv 0) (aa (pv 1) (aa (pv 2) (aa (bf (aa (pv 3) ae)) ae))))))
   (af (bd (PW.pt (g9 (aB nM (pv 4) ag (aK _)) (fQ (aB hJ (pv 4) ag (aK _)))))
   (ah (iS zra rfl rfl zva (j2 fun _ _ _ h=>h) (bB ae)))
   aM)
   (af (du (pv 0) (pv 3) rfl)
   (ah (du (pv 0) (pv 4) rfl))))),?_⟩
  walk_at "wp"
  refine⟨ak (by omega),fun l hl=>?_⟩
  have m1:aq H (ap H l (.lst [V.str (tx o1)])):=ad hl
  have e1:ap H l (.lst [V.str (tx o1)]) l=some (.lst (az [o1])):=ac
  generalize ap H l (.lst [V.str (tx o1)])=H1 at m1 e1 ⊢
  have hla:l≠a:=fun e=>by rw[e,ha]at hl;cases hl
  refine⟨a,C,dx,l,n,c,[o1],rfl,m1 _ _ ha,cl,n1,n2,n3,e1,by simp,fun r hr=>?_,fun ok H2 sm2=>?_,fun nok H2 sm2=>bad (fun h=>nok h.1) _ (.of (m1.trans sm2))⟩
  ·have h3:r=n\/r=o1:=by simpa using hr
   rcases h3 with rfl | rfl
   ·exact hn
   ·exact ho1
  ·have sx:bG a H (ap H2 a (.ins C dx [("name",.str (tx n)),("cost",.int c),("part_names",.ref l)])):=(bG.of (m1.trans sm2)).put
   have ea:ap H2 a (.ins C dx [("name",.str (tx n)),("cost",.int c),("part_names",.ref l)]) a=some (.ins C dx [("name",.str (tx n)),("cost",.int c),("part_names",.ref l)]):=ac
   have el:ap H2 a (.ins C dx [("name",.str (tx n)),("cost",.int c),("part_names",.ref l)]) l=some (.lst (az [o1])):=by rw[aj hla];exact sm2 _ _ e1
   generalize ap H2 a (.ins C dx [("name",.str (tx n)),("cost",.int c),("part_names",.ref l)])=H3 at sx ea el ⊢
   dsimp only
   by_cases t0:t<0
   ·rw[if_pos t0]
    exact⟨ak (by omega),bad (fun h=>by omega) _ sx⟩
   ·rw[if_neg t0]
    by_cases t7:7<t
    ·rw[if_pos t7]
     exact⟨ak (by omega),bad (fun h=>by omega) _ sx⟩
    ·rw[if_neg t7]
     refine⟨C,dx,_,ea,cl,n4,by simp,C,dx,_,ac,cl,n5,?_,?_⟩
     ·exact Gy (ck _ _ _) (by simp)
     ·rw[jV,w_]
      exact good ⟨ok,by omega,by omega⟩ l _ sx.put hl (by rw[aj hla];exact el) ac
abbrev cG:Stmt:=nc 30 1
def bM(K:W.Frag):Sp:=fun vs H Q _=>∃(a C dx l:Addr) (fs:List (Str×V)) (ps:bS),vs=[.ref a]/\H a=some (.ins C dx fs)/\oj K C/\aE K C "part_names"/\fs.lookup ("part_names":Str)=some (V.ref l)/\H l=some (.lst (az ps))/\j_ H ps Q
theorem oh:aI ["self"] ["self"] (ao cG):=by walk_at "c"
theorem dM{f:Addr}{fd:FuncData}(F:d9 K "parts" "Rule.parts" cG f fd)(nb:NB mg):bb P w K mg base bL 1 f fd ["self"] (bM K):=by
 have sc:=oh
 walk_at "f"
 ·obtain⟨a,C,dx,l,fs,ps,rfl,_⟩:=h;rfl
 ·obtain⟨a,C,dx,l,fs,ps,rfl,ha,cl,n1,lk,hl,q⟩:=h
  refine⟨_,(ah (aL (dI kn rfl nb.list uS (aa (jq (pv 0) rfl) ae)))),?_⟩
  walk_at "wp"
  refine⟨C,dx,fs,ha,cl,n1,V.ref l,lk,l,rfl,_,.inl (aT.of hl),fun l' hl'=>q l' _ hl' ac (ad hl')⟩
abbrev BU(n:List Nat)(c:Int)(l:Addr)(sg:List Nat):List (Str×V):=[("name",.str (tx n)),("cost",.int c),("part_names",.ref l),("sign",.str (tx sg))]
abbrev zZ(n:List Nat)(c:Int)(l:Addr)(o1 o2:List Nat):List (Str×V):=[("name",.str (tx n)),("cost",.int c),("part_names",.ref l),("one",.str (tx o1)),("other",.str (tx o2))]
abbrev B1(n:List Nat)(c:Int)(l:Addr)(o1:List Nat)(t:Int):List (Str×V):=[("name",.str (tx n)),("cost",.int c),("part_names",.ref l),("part",.str (tx o1)),("turning",.int t)]
theorem iQ{r:List Nat}(h:cz r=true):1<=r.length/\r.length<=4:=by
 unfold cz at h
 rw[Bool.and_eq_true,Bool.and_eq_true,decide_eq_true_eq,decide_eq_true_eq]at h
 exact h.1
theorem iL{r:List Nat}(h:gZ r=true):r.length=1:=by
 unfold gZ at h
 rw[Bool.and_eq_true,decide_eq_true_eq]at h
 exact h.1
theorem ai{a b:TS}{D:ip}{σ:St}{H:Hp}(h:∀N:St->Hp->Prop,(∀σ2 H2,b D σ2 H2->N σ2 H2)->a {D with nx:=N} σ H):tM a b D σ H:=h (b D) fun _ _ z=>z
abbrev kL:Stmt:=h7 58
def ny:Sp:=fun vs H Q _=>∃(i:Int),vs=[.int i]/\Q (.bl true) H
theorem tX:aI ["_law_found"] ["_law_found"] (ao kL):=by walk_at "c"
theorem tR{f:Addr}{fd:FuncData}(F:d9 K "_law_whole" "_law_whole" kL f fd)(nb:NB mg):bb P w K mg base bL 1 f fd ["_law_found"] ny:=by
 have sc:=tX
 walk_at "f"
 ·obtain⟨i,rfl,_⟩:=h;rfl
 ·obtain⟨i,rfl,q⟩:=h
  refine⟨_,(ah (aL (mF (au bX rfl nb.isinstance cS (aa (pv 0) (aa (mh (v:=.ty "int") rfl nb.int AI rfl) ae))) (qm (Az (au bX rfl nb.isinstance cS (aa (pv 0) (aa (mh (v:=.ty "bool") rfl nb.bool zw rfl) ae)))))))),?_⟩
  walk_at "wp"
  refine⟨_,h_.int i,_,mY K _,?_⟩
  walk_at "wp"
  refine⟨_,h_.int i,_,qJ K,?_⟩
  exact q
structure RV where
 n:List Nat
 c:Int
 o1:List Nat
 o2:List Nat
 sg:List Nat
 t:Int
structure RC where
 rr:Addr
 cc:Addr
 cb:Addr
 ca:Addr
 ct:Addr
def RC.at(R:RC)(k:Nat):Addr:=match k with | 0=>R.cc | 1=>R.cb | 2=>R.ca | _=>R.ct
def tQ(k:Nat)(l:Addr)(v:RV):List (Str×V):=match k with | 0=>BU v.n v.c l v.sg | 1=>zZ v.n v.c l v.o1 v.o2 | 2=>zZ v.n v.c l v.o1 v.o2 | _=>B1 v.n v.c l v.o1 v.t
def bg(k:Nat)(v:RV):bS:=match k with | 0=>[] | 1=>[v.o1,v.o2] | 2=>[v.o1,v.o2] | _=>[v.o1]
def Et(k:Nat)(v:RV):Prop:=match k with | 0=>fF v.n [] v.c/\gZ v.sg=true | 1=>fF v.n [v.o1,v.o2] v.c | 2=>fF v.n [v.o1,v.o2] v.c | _=>fF v.n [v.o1] v.c/\0<=v.t/\v.t<=7
structure RV.small(v:RV):Prop where
 n:v.n.length<=1000
 o1:v.o1.length<=1000
 o2:v.o2.length<=1000
 sg:v.sg.length<=1000
structure RV.good(v:RV):Prop where
 n:cz v.n=true
 c1:1<=v.c
 c9:v.c<=9
 o1:cz v.o1=true
 o2:cz v.o2=true
 sg:gZ v.sg=true
 t0:0<=v.t
 t7:v.t<=7
theorem RV.good.small{v:RV}(g:v.good):v.small:=⟨by have:=iQ g.n;omega,by have:=iQ g.o1;omega,by have:=iQ g.o2;omega,by have:=iL g.sg;omega⟩
theorem RV.good.ok{v:RV}(g:v.good):∀k,Et k v
 |0=>⟨⟨fun r hr=>by rw[show r=v.n by simpa using hr];exact g.n,g.c1,g.c9⟩,g.sg⟩
 |1=>⟨fun r hr=>by rcases(show r=v.n\/r=v.o1\/r=v.o2 by simpa using hr) with rfl | rfl | rfl<;>first | exact g.n | exact g.o1 | exact g.o2,g.c1,g.c9⟩
 |2=>⟨fun r hr=>by rcases(show r=v.n\/r=v.o1\/r=v.o2 by simpa using hr) with rfl | rfl | rfl<;>first | exact g.n | exact g.o1 | exact g.o2,g.c1,g.c9⟩
 |_+3=>⟨⟨fun r hr=>by rcases(show r=v.n\/r=v.o1 by simpa using hr) with rfl | rfl<;>first | exact g.n | exact g.o1,g.c1,g.c9⟩,g.t0,g.t7⟩
def jg(R:RC)(H:Hp)(k:Nat)(a:Addr)(v:RV):Prop:=∃dx l,H a=some (.ins (R.at k) dx (tQ k l v))/\H l=some (.lst (az (bg k v)))
theorem jg.up{R:RC}{H H':Hp}{k:Nat}{a:Addr}{v:RV}(r:jg R H k a v)(s:aq H H'):jg R H' k a v:=by
 obtain⟨dx,l,h1,h2⟩:=r
 exact⟨dx,l,s _ _ h1,s _ _ h2⟩
structure lZ(K:W.Frag)(R:RC):Prop where
 i0:kA K R.cc
 i1:kA K R.cb
 i2:kA K R.ca
 i3:kA K R.ct
 a0:aE K R.cc "name"/\aE K R.cc "cost"/\aE K R.cc "part_names"/\aE K R.cc "sign"
 a1:aE K R.cb "name"/\aE K R.cb "cost"/\aE K R.cb "part_names"/\aE K R.cb "one"/\aE K R.cb "other"
 a2:aE K R.ca "name"/\aE K R.ca "cost"/\aE K R.ca "part_names"/\aE K R.ca "one"/\aE K R.ca "other"
 a3:aE K R.ct "name"/\aE K R.ct "cost"/\aE K R.ct "part_names"/\aE K R.ct "part"/\aE K R.ct "turning"
 r0:W.kitOne K (.ref R.cc) (.ref R.rr)=some true
 r1:W.kitOne K (.ref R.cb) (.ref R.rr)=some true
 r2:W.kitOne K (.ref R.ca) (.ref R.rr)=some true
 r3:W.kitOne K (.ref R.ct) (.ref R.rr)=some true
 s0:W.kitOne K (.ref R.cc) (.ref R.cc)=some true
 s1:W.kitOne K (.ref R.cb) (.ref R.cb)=some true
 s2:W.kitOne K (.ref R.ca) (.ref R.ca)=some true
 s3:W.kitOne K (.ref R.ct) (.ref R.ct)=some true
theorem lZ.icls{R:RC}(rk:lZ K R):∀k,kA K (R.at k)
 |0=>rk.i0
 |1=>rk.i1
 |2=>rk.i2
 |_+3=>rk.i3
theorem lZ.name{R:RC}(rk:lZ K R):∀k,aE K (R.at k) "name"/\aE K (R.at k) "cost"/\aE K (R.at k) "part_names"
 |0=>⟨rk.a0.1,rk.a0.2.1,rk.a0.2.2.1⟩
 |1=>⟨rk.a1.1,rk.a1.2.1,rk.a1.2.2.1⟩
 |2=>⟨rk.a2.1,rk.a2.2.1,rk.a2.2.2.1⟩
 |_+3=>⟨rk.a3.1,rk.a3.2.1,rk.a3.2.2.1⟩
theorem mt(l:Addr)(v:RV):∀k,(tQ k l v).lookup ("name":Str)=some (V.str (tx v.n))/\(tQ k l v).lookup ("cost":Str)=some (V.int v.c)/\(tQ k l v).lookup ("part_names":Str)=some (V.ref l)/\(tQ k l v).lookup ("parts":Str)=none/\(tQ k l v).lookup ("told":Str)=none
 |0=>⟨rfl,rfl,rfl,rfl,rfl⟩
 |1=>⟨rfl,rfl,rfl,rfl,rfl⟩
 |2=>⟨rfl,rfl,rfl,rfl,rfl⟩
 |_+3=>⟨rfl,rfl,rfl,rfl,rfl⟩
theorem iT{H1 H2:Hp}{x dx:Addr}{o o':HO}(hx:H1 x=none)(hd:H1 dx=none)(s:bG x (ap (ap H1 dx o) x o') H2):aq H1 H2:=
 fun b u e=>s b u (aG e hx) (by rw[aj (aG e hx),aj (aG e hd)];exact e)
theorem BC{CX:jH}{k:Nat}{m:Str}{C0 C1 C2 C3:Addr}{s0 s1 s2 s3:Sp}(h0:∃ps,l6 P w K mg base CX k C0 m ps s0)(h1:∃ps,l6 P w K mg base CX k C1 m ps s1)(h2:∃ps,l6 P w K mg base CX k C2 m ps s2)(h3:∃ps,l6 P w K mg base CX k C3 m ps s3) :
  tF P w K mg base CX k m [(C0,s0),(C1,s1),(C2,s2),(C3,s3)]:=⟨fun o ho=>by
 simp only[F6,List.not_mem_nil,or_false]at ho
 rcases ho with rfl | rfl | rfl | rfl
 ·exact h0
 ·exact h1
 ·exact h2
 ·exact h3⟩
def iG(K:W.Frag)(R:RC):List (Addr×Sp):=[(R.cc,bM K),(R.cb,bM K),(R.ca,bM K),(R.ct,bM K)]
theorem oM{R:RC}{H:Hp}{k a}{v:RV}{Q:VK}{E:XK}(rk:lZ K R)(r:jg R H k a v)(q:j_ H (bg k v) Q) :
  ∃o∈iG K R,∃dx fs,H a=some (.ins o.1 dx fs)/\fs.lookup ("parts":Str)=none/\o.2 [.ref a] H Q E:=by
 obtain⟨dx,l,h1,h2⟩:=r
 have key:bM K [.ref a] H Q E:=⟨a,R.at k,dx,l,_,_,rfl,h1,(rk.icls k).cl,(rk.name k).2.2,(mt l v k).2.2.1,h2,q⟩
 have mem:(R.at k,bM K)∈iG K R:=by
  unfold iG
  match k with
  |0=>simp[RC.at]
  |1=>simp[RC.at]
  |2=>simp[RC.at]
  |_+3=>simp[RC.at]
 exact⟨_,mem,dx,_,h1,(mt l v k).2.2.2.1,key⟩
abbrev ig:Stmt:=h7 41
abbrev mK:Str:="abcdefghijklmnopqrstuvwxyz"
def cL(r:List Nat):Bool:=decide (1<=r.length)&&decide (r.length<=4)&&fZ r mK&&decide ((met (cJ (tx r))).length=r.length)
def ki:Sp:=fun vs H Q _=>∃(r:List Nat),vs=[.str (tx r)]/\r.length<=1000/\∀H',aq H H'->Q (.bl (cL r)) H'
theorem pL:aI ["text"] ["text"] (ao ig):=by walk_at "c"
theorem pY{f:Addr}{fd:FuncData}{t1 t2:Tok}(F:d9 K "are_signs" "are_signs" ig f fd)(nb:NB mg)(m_MOST_SIGNS:mg "MOST_SIGNS"=some (.int 4 t1))(m_SMALLS:mg "SMALLS"=some (.str "abcdefghijklmnopqrstuvwxyz" t2))(c_only_of:fP P w K mg base bL 1 "only_of" ["text","letters"] gy):bb P w K mg base bL 2 f fd ["text"] ki:=by
 have sc:=pL
 walk_at "f"
 ·obtain⟨r,rfl,_⟩:=h;rfl
 ·obtain⟨r,rfl,hr',q⟩:=h
  refine⟨_,(ah (aL (mF (rN nQ nQ ag (au bo rfl nb.len aR (aa (pv 0) ae)) (dJ (v:=.int 4) rfl m_MOST_SIGNS ⟨_,rfl⟩)) (mF (aP c_only_of (hr.mono (by decide)) rfl a_ (aa (pv 0) (aa (dJ (v:=.str "abcdefghijklmnopqrstuvwxyz") rfl m_SMALLS ⟨_,rfl⟩) ae))) (qm (qp dB (v7 rfl (pv 0) rfl nb.len rfl nb.set) (au bo rfl nb.len aR (aa (pv 0) ae)) (aK _))))))),?_⟩
  walk_at "wp"
  refine⟨by rw[aA];exact ak (by omega),?_⟩
  rw[aA]
  unfold cL at q
  by_cases h1:1<=r.length
  ·rw[if_pos (by omega)]
   by_cases h2:r.length<=4
   ·rw[if_pos (by omega)]
    refine⟨r,_,rfl,by omega,fun H' sm=>⟨_,rfl,?_⟩⟩
    have z:=q H' sm
    rw[decide_eq_true h1,decide_eq_true h2]at z
    cases ho:fZ r mK with
    |false=>
     rw[ho]at z
     rw[if_neg (by simp)]
     exact z
    |true=>
     rw[ho]at z
     rw[if_pos rfl]
     refine⟨by rw[CH];unfold scanBound;omega,by exact ak (by omega),?_⟩
     have e:decide (((met (cJ (tx r))).length:Int)=(r.length:Int))=decide ((met (cJ (tx r))).length=r.length):=by
      apply decide_eq_decide.mpr
      constructor<;>intro h<;>omega
     rw[e]
     exact z
   ·rw[if_neg (by omega)]
    have z:=q H (fun _ _ e=>e)
    rw[decide_eq_true h1,decide_eq_false h2]at z
    exact z
  ·rw[if_neg (by omega)]
   have z:=q H (fun _ _ e=>e)
   rw[decide_eq_false h1]at z
   exact z
def Bm(y:Str×List Int):List V:=.str y.1::y.2.map V.int
theorem nO{α:Type}{l:List α}{i:Nat}{x:α}(h:l[i]?=some x):l.drop i=x::l.drop (i+1):=by
 obtain⟨hi,e⟩:=FQ.mp h
 rw[List.drop_eq_getElem_cons hi,e]
def sN(C:Addr)(H:Hp)(y:Str×List Int)(E:XK):Prop:=∀(t d:Addr) (H':Hp),aq H H'->H' t=some (.tup (Bm y))->H' d=some (.xd [("why",.ref t)])->E (.ref C) (some d) H'
theorem sN.made{C:Addr}{H H':Hp}{y:Str×List Int}{E:XK}(b:sN C H y E)(sm:aq H H'){p d:Addr}(hp:H' p=none)(hd:ap H' p (.tup (Bm y)) d=none):E (.ref C) (some d) (ap (ap H' p (.tup (Bm y))) d (.xd [("why",.ref p)])):=by
 have hdp:p≠d:=fun x=>by rw[<- x,ac]at hd;cases hd
 exact b p d _ ((sm.trans (ad hp)).trans (ad hd)) (by rw[aj hdp,ac]) ac
structure Ah(K:W.Frag)(R:RC):Prop where
 kit:∀i j,i<4->j<4->W.kitOne K (.ref (R.at i)) (.ref (R.at j))=some (decide (i=j))
abbrev iN:Stmt:=nc 5 0
theorem w9:aI ["self","why"] ["self","why"] (ao iN):=by walk_at "c"
theorem wR{f C:Addr}{fd:FuncData}(F:d9 K "__init__" "NoGrammar.__init__" iN f fd)(xs:W.XSt K C "why"):bb P w K mg base bL 1 f fd ["self","why"] (jP C "why"):=by
 have sc:=w9
 walk_at "f"
 ·obtain⟨a,v,rfl,_⟩:=h;rfl
 ·obtain⟨a,v,rfl,ha,q⟩:=h
  refine⟨_,(ah (uE (pv 0) (pv 1) rfl)),?_⟩
  walk_at "wp"
  exact⟨C,ha,xs,fun d hd=>q d hd⟩
abbrev Cl(z x:Str):Bool:=!(Builtin.Str.occurrences z x 0 z.length 1).isEmpty
def ft(sg:Str):List (Nat×RV)->Nat->Option Nat
 | [],_=>none
 |r::rs,j=>if r.1=0/\Cl sg (tx r.2.sg)=false then some j else ft sg rs (j+1)
def gs(sg st:List Nat)(rs:List (Nat×RV)):Option (Str×List Int):=
 if cL sg=false then some ("signs",[]) else if cz st=false then some ("start",[]) else if 24<rs.length then some ("rules",[(rs.length:Int)]) else
  match ft (tx sg) rs 0 with
  |some k=>some ("sign",[(k:Int)])
  |none=>none
abbrev dR:Stmt:=h7 40
def cB(R:RC)(H:Hp)(as:List Addr)(rs:List (Nat×RV)):Prop:=as.length=rs.length/\∀(i:Nat) a r,as[i]?=some a->rs[i]?=some r->jg R H r.1 a r.2
theorem cB.up{R:RC}{H H':Hp}{as:List Addr}{rs:List (Nat×RV)}(h:cB R H as rs)(s:aq H H'):cB R H' as rs:=⟨h.1,fun i a r e1 e2=>(h.2 i a r e1 e2).up s⟩
def fV(R:RC)(C:Addr):Sp:=fun vs H Q E=>∃(sg st:List Nat) (a:Addr) (as:List Addr) (rs:List (Nat×RV)),vs=[.str (tx sg),.str (tx st),.ref a]/\sg.length<=1000/\st.length<=1000/\H a=some (.lst (as.map V.ref))/\cB R H as rs/\(∀r∈rs,r.1<4)/\rs.length<=100 /\
 (gs sg st rs=none->∀H',aq H H'->Q .non H')/\∀y,gs sg st rs=some y->sN C H y E
theorem lC:aI ["signs","start","rules","k","rule"] ["signs","start","rules"] (ao dR):=by walk_at "c"
theorem ky{R:RC}{f zaa:Addr}{fd:FuncData}{t1:Tok}(F:d9 K "check_made_of" "check_made_of" dR f fd)(nb:NB mg)(rk:lZ K R)(rk4:Ah K R)(m_MOST_RULES:mg "MOST_RULES"=some (.int 24 t1))(zPa:mg "CellRule"=some (.ref R.cc))
  (zpa:mg "NoGrammar"=some (.ref zaa)) (zka:XI P w K mg base 1 zaa "why") (c_are_signs:fP P w K mg base bL 2 "are_signs" ["text"] ki) (c_is_name:fP P w K mg base bL 2 "is_name" ["text"] jm):bb P w K mg base (dP P w) 3 f fd ["signs","start","rules"] (fV R zaa):=by
 have sc:=lC
 walk_at "x"
 ·obtain⟨sg,st,a,as,rs,rfl,_⟩:=h;rfl
 ·obtain⟨sg,st,a,as,rs,rfl,hsg,hst,ha,hrs,hk4,hn,good,bad⟩:=h
  refine⟨_,(af (bd (gN (iq (aP (CX:=dP P w) c_are_signs.lift (hr.mono (by decide)) rfl bJ (aa (pv 0) ae)) fun _=>rfl))
   (ah (da zka (hr.mono (by decide)) rfl rfl zpa (dg fun _ _ _ h=>h) (aa (aW (bB ae)) ae)))
   aM)
   (af (bd (gN (iq (aP (CX:=dP P w) c_is_name.lift (hr.mono (by decide)) rfl bJ (aa (pv 1) ae)) fun _=>rfl))
   (ah (da zka (hr.mono (by decide)) rfl rfl zpa (dg fun _ _ _ h=>h) (aa (aW (bB ae)) ae)))
   aM)
   (af (bd (aB hJ (au aO rfl nb.len aR (aa (pv 2) ae)) (dJ (v:=.int 24) rfl m_MOST_RULES ⟨_,rfl⟩) (aK _))
   (ah (da zka (hr.mono (by decide)) rfl rfl zpa (dg fun _ _ _ h=>h) (aa (aW (bB (aa (au aO rfl nb.len aR (aa (pv 2) ae)) ae))) ae)))
   aM)
   (ah (bD PassesOwn.leaving rfl (mj rfl nb.enumerate (aa (pv 2) ae)) (im (n:=2) rfl (bj (aF (i:=3) sc.nd rfl (Or.inl rfl)) (bj (aF (i:=4) sc.nd rfl (Or.inl rfl)) eM)))
   (ah (bd (PW.pt (m_ (iq (au bX rfl nb.isinstance cS (aa (pv 4) (aa (dJ (v:=.ref _) rfl zPa rfl) ae))) fun _=>rfl) (qa (aB qy (jq (pv 4) rfl) (pv 0) (by with_unfolding_all rfl)))))
   (ah (da zka (hr.mono (by decide)) rfl rfl zpa (dg fun _ _ _ h=>h) (aa (aW (bB (aa (pv 3) ae))) ae)))
   aM))))))),?_⟩
  have tupw:∀(H':Hp) (y:Str×List Int),aq H H'->gs sg st rs=some y->∀p,H' p=none->1<=sizeLine/\∀d,ap H' p (.tup (Bm y)) d=none->E (.ref zaa) (some d) (ap (ap H' p (.tup (Bm y))) d (.xd [("why",.ref p)])):=
   fun H' y sm hy p hp=>⟨ak (by omega),fun d hd=>(bad y hy).made sm hp hd⟩
  walk_at "n"
  refine⟨sg,rfl,hsg,fun H1 sm1=>⟨_,rfl,?_⟩⟩
  unfold gs at good tupw
  cases e1:cL sg with
  |false=>
   rw[if_pos rfl]
   rw[if_pos e1]at tupw
   exact⟨ak (by omega),tupw H1 _ sm1 rfl⟩
  |true=>
  rw[if_neg (by decide)]
  rw[if_neg (by rw[e1];decide)]at good tupw
  refine h1 _ _ ?_
  clear h1
  walk_at "o"
  refine⟨st,rfl,by omega,fun H2 sm2=>⟨_,rfl,?_⟩⟩
  have sm12:=sm1.trans sm2
  cases e2:cz st with
  |false=>
   rw[if_pos rfl]
   rw[if_pos e2]at tupw
   exact⟨ak (by omega),tupw H2 _ sm12 rfl⟩
  |true=>
  rw[if_neg (by decide)]
  rw[if_neg (by rw[e2];decide)]at good tupw
  refine h2 _ _ ?_
  clear h2
  have ha2:=sm12 _ _ ha
  have hal:(as.map V.ref).length=rs.length:=by rw[FS];exact hrs.1
  refine ai fun N3 h3=>?_
  walk_at "wp"
  refine⟨_,aT.of ha2,?_⟩
  rw[hal]
  by_cases h24:24<rs.length
  ·rw[if_pos (by omega)]
   rw[if_pos h24]at tupw
   refine⟨_,aT.of ha2,ak (by omega),?_⟩
   rw[hal]
   exact tupw H2 _ sm12 rfl
  rw[if_neg (by omega)]
  rw[if_neg h24]at good tupw
  refine h3 _ _ ?_
  clear h3
  walk_at "wp"
  refine⟨_,aT.of ha2,?_⟩
  refine iM (xs:=as.map V.ref) (fun i σ H'=>aq H H'/\ft (tx sg) (rs.drop i) i=ft (tx sg) rs 0/\∃x y,σ=[some (.str (tx sg)),some (.str (tx st)),some (.ref a),x,y]) ⟨sm12,rfl,_,_,rfl⟩ ?_ ?_ ?_
  ·rintro i σ H' _ ⟨sm,_⟩
   exact aT.of (sm _ _ ha)
  ·rintro i x σ H3 T hx ⟨sm,hb,x1,y1,rfl⟩ hT
   have hlt:i<rs.length:=by have:=(FQ.mp hx).1;rw[hal]at this;exact this
   obtain⟨ra,hra,rfl⟩:∃ra,as[i]?=some ra/\V.ref ra=x:=by
    rw[FU]at hx
    cases e:as[i]? with
    |none=>rw[e]at hx;cases hx
    |some ra=>rw[e]at hx;exact⟨ra,rfl,Option.some.inj hx⟩
   have hrr:rs[i]?=some rs[i]:=FP hlt
   have hr4:=hk4 _ (FZ hlt)
   generalize rs[i]=r at hrr hr4
   rw[nO hrr]at hb
   have smT:aq H (ap H3 T (.tup [V.int (i:Int),V.ref ra])):=sm.trans (ad hT)
   have eT:ap H3 T (.tup [V.int (i:Int),V.ref ra]) T=some (.tup [V.int (i:Int),V.ref ra]):=ac
   generalize ap H3 T (.tup [V.int (i:Int),V.ref ra])=H4 at smT eT ⊢
   have rr:=(hrs.2 i ra r hra hrr).up smT
   obtain⟨dx,pl,hra4,_⟩:=id rr
   walk_at "wp"
   refine⟨_,bq.of eT,rfl,_,_,rfl,_,_,rfl,rfl,?_⟩
   refine⟨_,(rk.icls r.1).ty hra4,_,rk4.kit r.1 0 hr4 (by decide),?_⟩
   have hb':(if r.1=0/\Cl (tx sg) (tx r.2.sg)=false then some i else ft (tx sg) (rs.drop (i+1)) (i+1))=ft (tx sg) rs 0:=hb
   by_cases e0:r.1=0
   ·rw[if_pos (by simp[e0])]
    obtain⟨r0,v⟩:=r
    have e0':r0=0:=e0
    subst e0'
    refine⟨ra,rfl,_,_,_,hra4,rk.i0.cl,rk.a0.2.2.2,_,rfl,_,rfl,?_⟩
    cases hin:Cl (tx sg) (tx v.sg) with
    |false=>
     rw[if_pos hin]
     rw[if_pos ⟨rfl,hin⟩]at hb'
     rw[<- hb']at tupw
     exact⟨ak (by omega),tupw H4 _ smT rfl⟩
    |true=>
     rw[if_neg (by rw[show(!(Builtin.Str.occurrences (tx sg) (tx v.sg) 0 (tx sg).length 1).isEmpty)=true from hin];decide)]
     rw[if_neg (fun z=>by rw[hin]at z;exact absurd z.2 (by decide))]at hb'
     exact⟨smT,hb'⟩
   ·rw[if_neg (by simp[e0])]
    rw[if_neg (fun z=>e0 z.1)]at hb'
    exact⟨smT,hb'⟩
  ·rintro σ H' ⟨sm,hb,x,y,rfl⟩
   walk_at "wp"
   rw[hal,List.drop_of_length_le (Gc _)]at hb
   refine good ?_ H' sm
   rw[<- hb];rfl
def hU(m:List (Str×List Nat))(z:Str)(i:Nat):List (Str×List Nat):=m.map fun q=>if q.1=z then(q.1,q.2++[i]) else q
structure pR(H0:Hp)(p:Addr)(t:NT)(H:Hp):Prop where
 same:aq H0 H
 at_:cv H p t
 fresh:∀x∈t,H0 x.2.1=none
 nodup:((i4 t).map (·.1)).Nodup
theorem mX(t:NT):(i4 t).length=t.length:=by unfold i4;rw[FS]
theorem og(m:List (Str×List Nat))(z:Str):(bA m z).length<=m.length+1:=by
 unfold bA;split
 ·omega
 ·rw[Gb];simp
theorem gB(m:List (Str×List Nat))(z:Str)(i:Nat):(hU m z i).map (·.1)=m.map (·.1):=by
 unfold hU;rw[F5]
 apply List.map_congr_left
 intro q _
 simp only[Function.comp]
 split<;>rfl
theorem v2{m:List (Str×List Nat)}{j i:Nat}{q:Str×List Nat}(nd:(m.map (·.1)).Nodup)(hj:m[j]?=some q):m.set j (q.1,q.2++[i])=hU m q.1 i:=by
 unfold hU
 apply List.ext_getElem?
 intro k
 rw[FU,List.getElem?_set]
 have hlt:j<m.length:=(FQ.mp hj).1
 by_cases e:j=k
 ·subst e
  rw[if_pos rfl,if_pos hlt,hj]
  simp
 ·rw[if_neg e]
  cases hk:m[k]? with
  |none=>rfl
  |some y=>
   have hne:y.1≠q.1:=by
    intro h
    have h1:(m.map (·.1))[j]?=some q.1:=by rw[FU,hj];rfl
    have h2:(m.map (·.1))[k]?=some q.1:=by rw[FU,hk];simp[h]
    exact e ((List.getElem?_inj (FQ.mp h1).1 nd).mp (h1.trans h2.symm))
   simp[hne]
theorem pR.free{H0 H:Hp}{p:Addr}{t:NT}(N:pR H0 p t H){l:Addr}(h:H l=none):H0 l=none:=N.same.free h
theorem lR{te:TE}{σ:St}{H0 H:Hp}{p:Addr}{t:NT}{z:Str}{i:Nat}{Q:VK}(hp:H0 p=none)(hv:σ[i]?=some (some (.ref p)))(hte:∀R:VK,R (.str z) H->te σ H R)(N:pR H0 p t H)(hn:t.length<sizeLine)
  (h:∀(H':Hp) (t':NT) (j:Nat) (x:Str×Addr×List Nat),pR H0 p t' H'->t'[j]?=some x->x.1=z->i4 t'=bA (i4 t) z->t'.length<=t.length+1->(∀a o,a≠p->H a=some o->H' a=some o)->Q (.ref x.2.1) H'):rE (b5 i) te (y4 qK) σ H Q:=by
 refine⟨.ref p,hv,p,rfl,.inl ⟨_,.inl N.at_.dict⟩,hte _ ⟨Gd _,fun l hl=>?_⟩⟩
 have hl0:=N.free hl
 refine N.at_.setdef hl hn fun H' t' j x N' hj hx hm hy hk=>h H' t' j x ⟨fun b o e=>hk b o (fun q=>by rw[q,hp]at e;exact nomatch e) (N.same b o e),N',fun y hyy=>?_,?_⟩ hj hx hm ?_ hk
 ·rcases hy y hyy with q | q
  ·exact N.fresh y q
  ·rw[q];exact hl0
 ·rw[hm];exact j8 N.nodup
 ·have:=og (i4 t) z
  rw[<- hm,mX,mX]at this
  exact this
theorem pR.put{H0 H:Hp}{p:Addr}{t:NT}{j k:Nat}{x:Str×Addr×List Nat}(N:pR H0 p t H)(hj:t[j]?=some x) :
  pR H0 p (t.set j (x.1,x.2.1,x.2.2++[k])) (ap H x.2.1 (.lst (Aj (x.2.2++[k]))))/\i4 (t.set j (x.1,x.2.1,x.2.2++[k]))=hU (i4 t) x.1 k:=by
 have hm:=FV hj
 have e:i4 (t.set j (x.1,x.2.1,x.2.2++[k]))=hU (i4 t) x.1 k:=by
  rw[zv]
  exact v2 (q:=(x.1,x.2.2)) N.nodup (by unfold i4;rw[FU,hj];rfl)
 refine⟨⟨aX N.same (N.fresh x hm),N.at_.put hj,fun y hy=>?_,?_⟩,e⟩
 ·rcases List.mem_or_eq_of_mem_set hy with q | q
  ·exact N.fresh y q
  ·rw[q];exact N.fresh x hm
 ·rw[e,gB];exact N.nodup
abbrev dv:Stmt:=h7 42
theorem jh:aI ["start","rules","numbers","k","rule","part"] ["start","rules"] (ao dv):=by walk_at "c"
def dL(m:List (Str×List Nat))(i:Nat)(r:Nat×RV):List (Str×List Nat):=((bg r.1 r.2).map tx).foldl bA (hU (bA m (tx r.2.n)) (tx r.2.n) i)
def eW:Nat->List (Nat×RV)->List (Str×List Nat)->List (Str×List Nat)
 |_,[],m=>m
 |i,r::rs,m=>eW (i+1) rs (dL m i r)
theorem jn{m:List (Str×List Nat)}{z:Str}{n:Nat}(h:∀q∈m,q.2.length<=n):∀q∈bA m z,q.2.length<=n:=by
 unfold bA;split
 ·exact h
 ·intro q hq
  rcases F4.mp hq with z1 | z1
  ·exact h q z1
  ·rw[FT.mp z1];exact Gd _
theorem lW:∀{zs:List Str} {m:List (Str×List Nat)} {n:Nat},(∀q∈m,q.2.length<=n)->∀q∈zs.foldl bA m,q.2.length<=n
 | [],_,_,h=>h
 |z::zs,_,_,h=>lW (zs:=zs) (jn h)
theorem sf{m:List (Str×List Nat)}{i n:Nat}{r:Nat×RV}(h:∀q∈m,q.2.length<=n):∀q∈dL m i r,q.2.length<=n+1:=by
 unfold dL
 refine lW fun q hq=>?_
 unfold hU at hq
 obtain⟨q0,hq0,rfl⟩:=GA.mp hq
 have:=jn h q0 hq0
 split
 ·rw[Gb];simp;exact this
 ·omega
theorem mM:∀{rs:List (Nat×RV)} {i n:Nat} {m:List (Str×List Nat)},(∀q∈m,q.2.length<=n)->∀q∈eW i rs m,q.2.length<=n+rs.length
 | [],_,_,_,h=>h
 |r::rs,i,n,m,h=>fun q hq=>by
  have:=mM (rs:=rs) (i:=i+1) (sf (i:=i) (r:=r) h) q hq
  rw[F2];omega
theorem fE:∀{rs:List (Nat×RV)} {i:Nat} {m:List (Str×List Nat)} {r:Nat×RV},eW i (rs++[r]) m=dL (eW i rs m) (i+rs.length) r
 | [],i,m,r=>rfl
 |r0::rs,i,m,r=>by
  show eW (i+1) (rs++[r]) (dL m i r0)=dL (eW (i+1) rs (dL m i r0)) (i+(rs.length+1)) r
  rw[fE,show i+1+rs.length=i+(rs.length+1) by omega]
theorem mP(k:Nat)(v:RV):(bg k v).length<=2:=by
 match k with
 |0=>simp[bg]
 |1=>simp[bg]
 |2=>simp[bg]
 |_+3=>simp[bg]
def bW(z:Str)(rs:List (Nat×RV)):List (Str×List Nat):=eW 0 rs [(z,[])]
def fb(K:W.Frag)(R:RC):Sp:=fun vs H Q _=>∃(z:Str) (a:Addr) (as:List Addr) (rs:List (Nat×RV)),vs=[.str z,.ref a]/\H a=some (.lst (as.map V.ref))/\cB R H as rs/\rs.length<=100 /\
 ∀p H' t,H p=none->cv H' p t->i4 t=bW z rs->(∀x∈t,H x.2.1=none)->aq H H'->Q (.ref p) H'
theorem ju{R:RC}{f:Addr}{fd:FuncData}(F:d9 K "numbers_by_name" "numbers_by_name" dv f fd)(nb:NB mg)(rk:lZ K R)(cp_parts:tF P w K mg base bL 1 "parts" (iG K R)):bb P w K mg base bL 2 f fd ["start","rules"] (fb K R):=by
 have sc:=jh
 walk_at "f"
 ·obtain⟨r,a,_,_,rfl,_⟩:=h;rfl
 ·obtain⟨z,a,as,rs,rfl,ha,hrs,hn,q⟩:=h
  refine⟨_,(af (ay (i:=2) sc.nd rfl (Or.inl rfl) (zt (wO (pv 0) (bf ae) yQ) rfl rfl (by simp) (by decide)))
   (af (bD PassesOwn.never rfl (mj rfl nb.enumerate (aa (pv 1) ae)) (im (n:=2) rfl (bj (aF (i:=3) sc.nd rfl (Or.inl rfl)) (bj (aF (i:=4) sc.nd rfl (Or.inl rfl)) eM)))
   (af (bE (dm PySem.F.plainAttrs_list PySem.F.slot_list_append PySem.F.type_list_append b7 (nw (pv 2) (jq (pv 4) rfl) (bf ae) ⟨rfl,rfl,rfl,rfl⟩) (aa (pv 3) ae)))
   (ah (bD PassesOwn.never rfl (cC (mz cp_parts (hr.mono (by decide)) a_ (pv 4))) (aF (i:=5) sc.nd rfl (Or.inl rfl))
   (ah (bE (nw (pv 2) (pv 5) (bf ae) ⟨rfl,rfl,rfl,rfl⟩)))))))
   (ah (aL (pv 2))))),?_⟩
  walk_at "wp"
  intro p hp
  refine⟨Gd _,fun l hl=>?_⟩
  have hlp:l≠p:=fun e=>by rw[e,ac]at hl;exact nomatch hl
  have hl0:H l=none:=by rw[aj hlp]at hl;exact hl
  have hap:a≠p:=fun e=>by rw[e,hp]at ha;exact nomatch ha
  have hal:a≠l:=fun e=>by rw[e,hl0]at ha;exact nomatch ha
  refine⟨by rw[aj (Ne.symm hlp),ac],[(.inr z,.ref l)],rfl,by simp,as.map V.ref,aT.of (by rw[aj hap,aj hal,aj hap];exact ha),?_⟩
  refine iM (xs:=as.map V.ref) (fun i σ H'=>aq H H'/\∃t,cv H' p t/\(∀x∈t,H x.2.1=none)/\((i4 t).map (·.1)).Nodup/\i4 t=eW 0 (rs.take i) [(z,[])]/\t.length<=1+3*i/\∃x y u,σ=[some (.str z),some (.ref a),some (.ref p),x,y,u]) ?_ ?_ ?_ ?_
  ·refine⟨fun b o e=>?_,[(z,l,[])],⟨by rw[ac];rfl,fun x hx=>?_,by simp⟩,fun x hx=>?_,by simp[i4],rfl,by simp,_,_,_,rfl⟩
   ·have h1:b≠p:=fun q=>by rw[q,hp]at e;exact nomatch e
    have h2:b≠l:=fun q=>by rw[q,hl0]at e;exact nomatch e
    rw[aj h1,aj h2,aj h1];exact e
   ·rw[FT.mp hx,aj hlp,ac];rfl
   ·rw[FT.mp hx];exact hl0
  ·rintro i σ H' _ ⟨sm,_⟩
   exact aT.of (sm _ _ ha)
  ·rintro i x σ H1 T hx ⟨sm,t,N,fr,nd,em,hlen,x1,y1,u1,rfl⟩ hT
   have hlt:i<rs.length:=by have:=(FQ.mp hx).1;rw[FS,hrs.1]at this;exact this
   obtain⟨ra,hra,rfl⟩:∃ra,as[i]?=some ra/\V.ref ra=x:=by
    rw[FU]at hx
    cases e:as[i]? with
    |none=>rw[e]at hx;cases hx
    |some ra=>rw[e]at hx;exact⟨ra,rfl,Option.some.inj hx⟩
   have hrr:rs[i]?=some rs[i]:=FP hlt
   generalize rs[i]=r at hrr
   have rr:=hrs.2 i ra r hra hrr
   have smT:aq H (ap H1 T (.tup [V.int (i:Int),V.ref ra])):=sm.trans (ad hT)
   have gT:∀b o,H1 b=some o->ap H1 T (.tup [V.int (i:Int),V.ref ra]) b=some o:=ad hT
   have eT:bq K (ap H1 T (.tup [V.int (i:Int),V.ref ra])) T [V.int (i:Int),V.ref ra]:=bq.of ac
   have N2:=N.grow gT
   generalize ap H1 T (.tup [V.int (i:Int),V.ref ra])=H2 at smT gT eT N2 ⊢
   clear gT N hT sm H1
   simp only[A_,xU,bZ,AU]
   refine⟨_,_,rfl,eT,rfl,_,_,rfl,_,_,rfl,rfl,?_⟩
   refine ai fun N1 h1=>?_
   have rr2:=rr.up smT
   have NI:pR H p t H2:=⟨smT,N2,fr,nd⟩
   have hz:sizeLine>1000:=bw (by decide)
   obtain⟨dx,pl,hra2,_⟩:=id rr2
   walk_at "wp"
   refine lR (z:=tx r.2.n) hp rfl (fun S hS=>⟨_,rfl,ra,_,dx,_,_,rfl,hra2,(rk.icls r.1).cl,(rk.name r.1).1,(mt pl r.2 r.1).1,hS⟩) NI (by omega) fun H3 t3 j x N3 hj hx hm hl3 hk=>?_
   have hxl:=N3.at_.list x (FV hj)
   refine⟨.inl ⟨rfl,_,aT.of hxl⟩,_,rfl,_,hxl,?_,h1 _ _ ?_⟩
   ·have h2:(x.1,x.2.2)∈bA (i4 t) (tx r.2.n):=by rw[<- hm];exact GA.mpr ⟨x,FV hj,rfl⟩
    have h3:=jn (mM (rs:=rs.take i) (i:=0) (n:=0) (m:=[(z,[])]) (fun q hq=>by rw[FT.mp hq];exact Gd _)) (z:=tx r.2.n) (x.1,x.2.2) (by rw[<- em];exact h2)
    rw[Gw]at h3
    unfold Aj
    rw[FS]
    have h4:x.2.2.length<=100:=by simp at h3;omega
    omega
   clear h1
   obtain⟨N4,hm4⟩:=N3.put (k:=i) hj
   have hl4:(t3.set j (x.1,x.2.1,x.2.2++[i])).length<=t.length+1:=by rw[GF];exact hl3
   have hm4:i4 (t3.set j (x.1,x.2.1,x.2.2++[i]))=hU (bA (i4 t) (tx r.2.n)) (tx r.2.n) i:=by rw[hm4,hm,hx]
   have eI:Aj (x.2.2++[i])=Aj x.2.2++[V.int (i:Int)]:=by unfold Aj;rw[F3];rfl
   rw[eI]at N4
   generalize t3.set j (x.1,x.2.1,x.2.2++[i])=t4 at N4 hm4 hl4
   generalize ap H3 x.2.1 (.lst (Aj x.2.2++[V.int (i:Int)]))=H4 at N4 ⊢
   clear hk hxl hj N3 hm hl3 hx NI N2 hra2 rr2
   have rr4:=rr.up N4.same
   have hpk:=mP r.1 r.2
   walk_at "wp"
   refine oM rk rr4 fun lp H5 hlp hH5 sm5=>⟨lp,rfl,⟨_,aT.of hH5⟩,?_⟩
   have hpp:lp≠p:=fun e=>by rw[e,N4.at_.dict]at hlp;exact nomatch hlp
   refine fT (xs:=az (bg r.1 r.2)) (fun n σ H'=>n<=(bg r.1 r.2).length/\∃t',pR H p t' H'/\i4 t'=(((bg r.1 r.2).take n).map tx).foldl bA (hU (bA (i4 t) (tx r.2.n)) (tx r.2.n) i)/\t'.length<=t.length+1+n/\H' lp=some (.lst (az (bg r.1 r.2)))/\∃u,σ=[some (.str z),some (.ref a),some (.ref p),some (.int (i:Int)),some (.ref ra),u])
    ⟨Gd _,t4,⟨N4.same.trans sm5,N4.at_.grow sm5,N4.fresh,N4.nodup⟩,hm4,hl4,hH5,_,rfl⟩ ?_ ?_ ?_
   ·rintro n σ H' _ ⟨_,t',_,_,_,hH',_⟩
    exact aT.of hH'
   ·rintro n v σ H' hv ⟨hn1,t',N',hm',hl',hH',u,rfl⟩
    have hnl:n<(bg r.1 r.2).length:=by have:=(FQ.mp hv).1;rwa [aJ]at this
    rw[bI hnl]at hv
    cases hv
    walk_at "wp"
    refine lR (z:=tx (bg r.1 r.2)[n]) hp rfl (fun S hS=>⟨_,rfl,hS⟩) N' (by omega) fun H6 t6 j x N6 hj hx hm6 hl6 hk=>?_
    refine⟨hnl,t6,N6,?_,by omega,hk _ _ hpp hH'⟩
    rw[hm6,hm',List.take_add_one,FP hnl,F3,List.foldl_append]
    rfl
   ·rintro σ H' ⟨_,t',N',hm',hl',hH',u,rfl⟩
    rw[aJ,Gv]at hm'
    refine⟨N'.same,t',N'.at_,N'.fresh,N'.nodup,?_,?_,_,_,_,rfl⟩
    ·rw[hm',List.take_add_one,hrr,em]
     show _=eW 0 (rs.take i++[r]) _
     rw[fE,Gw,GJ (Nat.le_of_lt hlt),Nat.zero_add]
     rfl
    ·rw[aJ]at hl';omega
  ·rintro σ H' ⟨sm,t,N,fr,_,em,_,x,y,u,rfl⟩
   walk_at "wp"
   refine q p H' t hp N ?_ fr sm
   rw[em,FS,hrs.1,Gv];rfl
def iu(sg st:List Nat)(rs:List (Nat×RV)):Option (Str×List Int):=
 match gs sg st rs with
 |some y=>some y
 |none=>if 8<(bW (tx st) rs).length then some ("names",[((bW (tx st) rs).length:Int)]) else none
def fN(sg st:List Nat)(lk pn:Addr):List (Str×V):=[("signs",.str (tx sg)),("start",.str (tx st)),("kept",.ref lk),("numbers",.ref pn)]
def iB(R:RC)(H:Hp)(C dx a:Addr)(sg st:List Nat)(as:List Addr)(rs:List (Nat×RV)):Prop:=
 ∃lk pn t,H a=some (.ins C dx (fN sg st lk pn))/\H lk=some (.lst (as.map V.ref))/\cB R H as rs/\cv H pn t/\i4 t=bW (tx st) rs
def qA(R:RC)(H:Hp)(C dx a:Addr)(sg st:List Nat)(as:List Addr)(rs:List (Nat×RV))(lk pn:Addr)(t:NT):Prop:=
 H a=some (.ins C dx (fN sg st lk pn))/\H lk=some (.lst (as.map V.ref))/\cB R H as rs/\cv H pn t/\i4 t=bW (tx st) rs
theorem qA.f{R:RC}{H:Hp}{C dx a:Addr}{sg st:List Nat}{as:List Addr}{rs:List (Nat×RV)}{lk pn:Addr}{t:NT}(g:qA R H C dx a sg st as rs lk pn t):iB R H C dx a sg st as rs:=⟨lk,pn,t,g⟩
theorem iB.up{R:RC}{H H':Hp}{C dx a:Addr}{sg st:List Nat}{as:List Addr}{rs:List (Nat×RV)}(g:iB R H C dx a sg st as rs)(s:aq H H'):iB R H' C dx a sg st as rs:=by
 obtain⟨lk,pn,t,h1,h2,h3,h4,h5⟩:=g
 exact⟨lk,pn,t,s _ _ h1,s _ _ h2,h3.up s,h4.grow s,h5⟩
def zl(a C:Addr)(H:Hp)(y:Str×List Int)(E:XK):Prop:=∀(t d:Addr) (H':Hp),bG a H H'->H' t=some (.tup (Bm y))->H' d=some (.xd [("why",.ref t)])->E (.ref C) (some d) H'
theorem yR(k:Nat)(l:Addr)(v:RV):tQ k l v≠[]:=fun e=>by
 have:=(mt l v k).1
 rw[e]at this
 exact nomatch this
theorem cB.upX{R:RC}{H H':Hp}{a C dx:Addr}{as:List Addr}{rs:List (Nat×RV)}(h:cB R H as rs)(ha:H a=some (.ins C dx []))(s:bG a H H'):cB R H' as rs:=by
 refine⟨h.1,fun i b r e1 e2=>?_⟩
 obtain⟨d,l,h1,h2⟩:=h.2 i b r e1 e2
 refine⟨d,l,s _ _ (fun e=>?_) h1,s _ _ (fun e=>?_) h2⟩
 ·rw[e,ha]at h1
  have:=Option.some.inj h1
  exact absurd (HO.ins.inj this).2.2.symm (yR _ _ _)
 ·rw[e,ha]at h2;cases h2
abbrev di:Stmt:=nc 39 0
def gm(K:W.Frag)(R:RC)(CF:Addr):Sp:=fun vs H Q E=>∃(a C dx l:Addr) (sg st:List Nat) (as:List Addr) (rs:List (Nat×RV)),vs=[.ref a,.str (tx sg),.str (tx st),.ref l]/\H a=some (.ins C dx [])/\oj K C/\(aE K C "signs"/\aE K C "start"/\aE K C "kept"/\aE K C "numbers") /\
 sg.length<=1000/\st.length<=1000/\H l=some (.lst (as.map V.ref))/\cB R H as rs/\(∀r∈rs,r.1<4)/\rs.length<=100 /\
 (iu sg st rs=none->∀H' lk pn t,bG a H H'->qA R H' C dx a sg st as rs lk pn t->H lk=none->H pn=none->(∀x∈t,H x.2.1=none)->Q .non H')/\∀y,iu sg st rs=some y->zl a CF H y E
theorem pO:aI ["self","signs","start","rules"] ["self","signs","start","rules"] (ao di):=by walk_at "c"
theorem qx{R:RC}{f zaa:Addr}{fd:FuncData}{t1:Tok}(F:d9 K "__init__" "Grammar.__init__" di f fd)(nb:NB mg)(m_MOST_NAMES:mg "MOST_NAMES"=some (.int 8 t1))
  (zpa:mg "NoGrammar"=some (.ref zaa)) (zka:XI P w K mg base 1 zaa "why") (c_check_made_of:fP P w K mg base (dP P w) 3 "check_made_of" ["signs","start","rules"] (fV R zaa)) (c_numbers_by_name:fP P w K mg base bL 2 "numbers_by_name" ["start","rules"] (fb K R)) :
  bb P w K mg base (dP P w) 4 f fd ["self","signs","start","rules"] (gm K R zaa):=by
 have sc:=pO
 walk_at "x"
 ·obtain⟨a,C,dx,l,sg,st,as,rs,rfl,_⟩:=h;rfl
 ·obtain⟨a,C,dx,l,sg,st,as,rs,rfl,ha,cl,⟨n1,n2,n3,n4⟩,hsg,hst,hl,hrs,hk4,hn,good,bad⟩:=h
  refine⟨_,(af (bE (aP (E:=E) c_check_made_of (hr.mono (by decide)) rfl (fX fun _ _ _ h=>h) (aa (pv 1) (aa (pv 2) (aa (pv 3) ae)))))
   (af (du (pv 0) (pv 1) rfl)
   (af (du (pv 0) (pv 2) rfl)
   (af (du (pv 0) (dI kn rfl nb.list uS (aa (pv 3) ae)) rfl)
   (af (du (pv 0) (aP (CX:=dP P w) c_numbers_by_name.lift (hr.mono (by decide)) rfl bJ (aa (pv 2) (aa (pv 3) ae))) rfl)
   (ah (bd (aB hJ (au pf rfl nb.len aR (aa (jq (pv 0) rfl) ae)) (dJ (v:=.int 8) rfl m_MOST_NAMES ⟨_,rfl⟩) (aK _))
   (ah (da zka (hr.mono (by decide)) rfl rfl zpa (dg fun _ _ _ h=>h) (aa (aW (bB (aa (au pf rfl nb.len aR (aa (jq (pv 0) rfl) ae)) ae))) ae)))
   aM))))))),?_⟩
  walk_at "n"
  refine⟨sg,st,l,as,rs,rfl,hsg,hst,hl,hrs,hk4,hn,fun g0 H1 sm1=>h1 _ _ ?_,fun y hy t d H' sm ht hd=>bad y (by unfold iu;rw[hy]) t d H' (.of sm) ht hd⟩
  clear h1
  have ha1:=sm1 _ _ ha
  have hla:l≠a:=fun e=>by rw[e,ha]at hl;cases hl
  walk_at "o"
  refine⟨C,dx,_,ha1,cl,n1,by simp,h2 _ _ ?_⟩
  clear h2
  have sx2:bG a H (ap H1 a (.ins C dx [("signs",.str (tx sg))])):=(bG.of sm1).put
  have ea2:ap H1 a (.ins C dx [("signs",.str (tx sg))]) a=some (.ins C dx [("signs",.str (tx sg))]):=ac
  show _
  change tM _ _ _ _ (ap H1 a (.ins C dx [("signs",.str (tx sg))]))
  generalize ap H1 a (.ins C dx [("signs",.str (tx sg))])=H2 at sx2 ea2 ⊢
  clear sm1 ha1
  refine ai fun N3 h3=>?_
  walk_at "wp"
  have d1:¬ (("signs":Str)="start"):=by decide +kernel
  have e3:cg "start" (V.str (tx st)) [(("signs":Str),V.str (tx sg))]=[(("signs":Str),V.str (tx sg)),(("start":Str),V.str (tx st))]:=by simp only[cg,if_neg d1]
  refine⟨C,dx,_,ea2,cl,n2,by simp,?_⟩
  rw[e3]
  refine h3 _ _ ?_
  clear h3
  have sx3:bG a H (ap H2 a (.ins C dx [(("signs":Str),V.str (tx sg)),(("start":Str),V.str (tx st))])):=sx2.put
  have ea3:ap H2 a (.ins C dx [(("signs":Str),V.str (tx sg)),(("start":Str),V.str (tx st))]) a=some (.ins C dx [(("signs":Str),V.str (tx sg)),(("start":Str),V.str (tx st))]):=ac
  generalize ap H2 a (.ins C dx [(("signs":Str),V.str (tx sg)),(("start":Str),V.str (tx st))])=H3 at sx3 ea3 ⊢
  clear sx2 ea2
  have hl3:=sx3 _ _ hla hl
  refine ai fun N4 h4=>?_
  walk_at "wp"
  refine⟨_,.inl (aT.of hl3),fun lk hlk=>?_⟩
  have hka:lk≠a:=fun e=>by rw[e,ea3]at hlk;cases hlk
  have hlk0:lk≠l:=fun e=>by rw[e,hl3]at hlk;cases hlk
  have sk:aq H3 (ap H3 lk (.lst (as.map V.ref))):=ad hlk
  have ek:ap H3 lk (.lst (as.map V.ref)) lk=some (.lst (as.map V.ref)):=ac
  have fr1:H lk=none:=by
   cases e:H lk with
   |none=>rfl
   |some u=>rw[sx3 _ _ hka e]at hlk;cases hlk
  generalize ap H3 lk (.lst (as.map V.ref))=H4 at sk ek ⊢
  have d2:¬ (("signs":Str)="kept"):=by decide +kernel
  have d3:¬ (("start":Str)="kept"):=by decide +kernel
  have e4:cg "kept" (V.ref lk) [(("signs":Str),V.str (tx sg)),(("start":Str),V.str (tx st))]=[(("signs":Str),V.str (tx sg)),(("start":Str),V.str (tx st)),(("kept":Str),V.ref lk)]:=by simp only[cg,if_neg d2,if_neg d3]
  refine⟨C,dx,_,sk _ _ ea3,cl,n3,by simp,?_⟩
  rw[e4]
  refine h4 _ _ ?_
  clear h4
  have sx5:bG a H (ap H4 a (.ins C dx [(("signs":Str),V.str (tx sg)),(("start":Str),V.str (tx st)),(("kept":Str),V.ref lk)])):=(sx3.then sk).put
  have ea5:ap H4 a (.ins C dx [(("signs":Str),V.str (tx sg)),(("start":Str),V.str (tx st)),(("kept":Str),V.ref lk)]) a=some (.ins C dx [(("signs":Str),V.str (tx sg)),(("start":Str),V.str (tx st)),(("kept":Str),V.ref lk)]):=ac
  have ek5:ap H4 a (.ins C dx [(("signs":Str),V.str (tx sg)),(("start":Str),V.str (tx st)),(("kept":Str),V.ref lk)]) lk=some (.lst (as.map V.ref)):=by rw[aj hka];exact ek
  generalize ap H4 a (.ins C dx [(("signs":Str),V.str (tx sg)),(("start":Str),V.str (tx st)),(("kept":Str),V.ref lk)])=H5 at sx5 ea5 ek5 ⊢
  refine ai fun N5 h5=>?_
  walk_at "wp"
  refine⟨tx st,l,as,rs,rfl,sx5 _ _ hla hl,hrs.upX ha sx5,hn,fun pn H6 t hpn hN hm hfr sm6=>?_⟩
  have hpa:pn≠a:=fun e=>by rw[e,ea5]at hpn;cases hpn
  have hpk:pn≠lk:=fun e=>by rw[e,ek5]at hpn;cases hpn
  have fr2:H pn=none:=by
   cases e:H pn with
   |none=>rfl
   |some u=>rw[sx5 _ _ hpa e]at hpn;cases hpn
  have fr3:∀x∈t,H x.2.1=none:=fun x hx=>by
   have h5x:=hfr x hx
   cases e:H x.2.1 with
   |none=>rfl
   |some u=>rw[sx5 _ _ (fun z=>by rw[z,ea5]at h5x;cases h5x) e]at h5x;cases h5x
  have d4:¬ (("signs":Str)="numbers"):=by decide +kernel
  have d5:¬ (("start":Str)="numbers"):=by decide +kernel
  have d6:¬ (("kept":Str)="numbers"):=by decide +kernel
  have e6:cg "numbers" (V.ref pn) [(("signs":Str),V.str (tx sg)),(("start":Str),V.str (tx st)),(("kept":Str),V.ref lk)]=fN sg st lk pn:=by unfold fN;simp only[cg,if_neg d4,if_neg d5,if_neg d6]
  have ea6:=sm6 _ _ ea5
  refine⟨C,dx,_,ea6,cl,n4,by simp,?_⟩
  rw[e6]
  refine h5 _ _ ?_
  clear h5
  have sx7:bG a H (ap H6 a (.ins C dx (fN sg st lk pn))):=(sx5.then sm6).put
  have gf:qA R (ap H6 a (.ins C dx (fN sg st lk pn))) C dx a sg st as rs lk pn t:=by
   refine⟨ac,by rw[aj hka];exact sm6 _ _ ek5,hrs.upX ha sx7,⟨by rw[aj hpa];exact hN.dict,fun x hx=>?_,hN.apart⟩,hm⟩
   have hq:=hN.list x hx
   rw[aj (fun e=>by rw[e,ea6]at hq;cases hq)]
   exact hq
  have ea7:ap H6 a (.ins C dx (fN sg st lk pn)) a=some (.ins C dx (fN sg st lk pn)):=ac
  have ed7:ap H6 a (.ins C dx (fN sg st lk pn)) pn=some (.dK (sy t)):=by rw[aj hpa];exact hN.dict
  generalize ap H6 a (.ins C dx (fN sg st lk pn))=H7 at sx7 gf ea7 ed7 ⊢
  have hlen:(sy t).length=(bW (tx st) rs).length:=by rw[<- hm];unfold sy i4;rw[FS,FS]
  walk_at "wp"
  refine⟨C,dx,_,ea7,cl,n4,_,rfl,pn,rfl,_,ed7,?_⟩
  rw[hlen]
  by_cases h8:8<(bW (tx st) rs).length
  ·rw[if_pos (by omega)]
   refine⟨C,dx,_,ea7,cl,n4,_,rfl,pn,rfl,_,ed7,ak (by omega),fun p hp=>⟨ak (by omega),fun d hd=>?_⟩⟩
   rw[hlen]at hd ⊢
   have hdp:p≠d:=fun x=>by rw[<- x,ac]at hd;cases hd
   refine bad ("names",[((bW (tx st) rs).length:Int)]) (by unfold iu;rw[g0];simp only[];rw[if_pos h8]) p d _ (((sx7.then (ad hp))).then (ad hd)) (by rw[aj hdp,ac];rfl) ac
  ·rw[if_neg (by omega)]
   exact good (by unfold iu;rw[g0];simp only[];rw[if_neg h8]) H7 lk pn t sx7 gf fr1 fr2 fr3
abbrev dj:Stmt:=nc 39 2
def eD(R:RC)(C:Addr):Sp:=fun vs H Q _=>∃(a dx:Addr) (sg st:List Nat) (as:List Addr) (rs:List (Nat×RV)) (k:Nat) (b:Addr),vs=[.ref a,.int (k:Int)]/\iB R H C dx a sg st as rs/\as[k]?=some b/\Q (.ref b) H
theorem qt:aI ["self","k"] ["self","k"] (ao dj):=by walk_at "c"
theorem qc{R:RC}{f C:Addr}{fd:FuncData}(F:d9 K "rule" "Grammar.rule" dj f fd)(nb:NB mg)(cl:oj K C)(na:aE K C "signs"/\aE K C "start"/\aE K C "kept"/\aE K C "numbers"):bb P w K mg base bL 1 f fd ["self","k"] (eD R C):=by
 have sc:=qt
 walk_at "f"
 ·obtain⟨a,dx,sg,st,as,rs,k,b,rfl,_⟩:=h;rfl
 ·obtain⟨a,dx,sg,st,as,rs,k,b,rfl,g,hb,q⟩:=h
  obtain⟨lk,pn,t,ha,hk,hrs,hN,hm⟩:=id g
  have hu:=hr.units
  refine⟨_,(ah (aL (aC bc (jq (pv 0) rfl) (pv 1) (fun _ _=>rfl)))),?_⟩
  walk_at "wp"
  exact⟨C,dx,_,ha,cl,na.2.2.1,_,rfl,lk,rfl,_,aT.of hk,_,aV (by rw[FU,hb];rfl),q⟩
abbrev c8:Stmt:=nc 39 3
def gn(R:RC)(C:Addr):Sp:=fun vs H Q _=>∃(a dx:Addr) (sg st:List Nat) (as:List Addr) (rs:List (Nat×RV)),vs=[.ref a]/\iB R H C dx a sg st as rs/\Q (.int (rs.length:Int)) H
theorem qS:aI ["self"] ["self"] (ao c8):=by walk_at "c"
theorem qk{R:RC}{f C:Addr}{fd:FuncData}(F:d9 K "many" "Grammar.many" c8 f fd)(nb:NB mg)(cl:oj K C)(na:aE K C "signs"/\aE K C "start"/\aE K C "kept"/\aE K C "numbers"):bb P w K mg base bL 1 f fd ["self"] (gn R C):=by
 have sc:=qS
 walk_at "f"
 ·obtain⟨a,dx,sg,st,as,rs,rfl,_⟩:=h;rfl
 ·obtain⟨a,dx,sg,st,as,rs,rfl,g,q⟩:=h
  obtain⟨lk,pn,t,ha,hk,hrs,hN,hm⟩:=id g
  have hu:=hr.units
  refine⟨_,(ah (aL (au aO rfl nb.len aR (aa (jq (pv 0) rfl) ae)))),?_⟩
  walk_at "wp"
  refine⟨C,dx,_,ha,cl,na.2.2.1,_,rfl,lk,rfl,_,aT.of hk,?_⟩
  rw[FS,hrs.1];exact q
def wq(p q:bS):bS:=(p.zip q).map fun x=>x.1++x.2
structure i7(p:bS)(r c:Nat):Prop where
 rc:jA p r c
 r0:0<r
 r6:r<=6
 c0:0<c
 c6:c<=6
inductive rL:Nat->List bS->Prop
 |cell:rL 0 []
 |beside {p q:bS} {r c r' c':Nat}:i7 p r c->i7 q r' c'->rL 1 [p,q]
 |above {p q:bS} {r c r' c':Nat}:i7 p r c->i7 q r' c'->rL 2 [p,q]
 |turn {p:bS} {r c:Nat}:i7 p r c->rL 3 [p]
def Bb(H:Hp)(l:Addr)(as:List Addr)(ps:List bS):Prop:=H l=some (.lst (as.map V.ref))/\as.length=ps.length/\∀i (h1:i<as.length) (h2:i<ps.length),H as[i]=some (.lst (az ps[i]))
def je(k:Nat)(v:RV)(ps:List bS):Option bS:=
 match k,ps with
 |0,_=>some [v.sg]
 |1,[p,q]=>if p.length=q.length/\(p.headD []).length+(q.headD []).length<=6 then some (wq p q) else none
 |2,[p,q]=>if(p.headD []).length=(q.headD []).length/\p.length+q.length<=6 then some (p++q) else none
 |_,[p]=>some (turned p v.t.toNat)
 |_,_=>none
abbrev mG:Stmt:=h7 44
def lx(K:W.Frag):Sp:=fun vs H Q _=>∃(a:Addr) (ns:List Int) (k:Nat),vs=[.ref a,.int (k:Int)]/\aT K H a (ns.map V.int)/\k<=1000/\∀c:Int,Q (.int c) H
theorem vq:aI ["_law_script","_law_k","_law_cell_here","_law_mixed"] ["_law_script","_law_k"] (ao mG):=by walk_at "c"
theorem wA{f:Addr}{fd:FuncData}(F:d9 K "_law_cell" "_law_cell" mG f fd)(nb:NB mg):bb P w K mg base bL 1 f fd ["_law_script","_law_k"] (lx K):=by
 have sc:=vq
 walk_at "f"
 ·obtain⟨a,ns,k,rfl,_⟩:=h;rfl
 ·obtain⟨a,ns,k,rfl,hS,hk,q⟩:=h
  refine⟨_,(af (ay (i:=2) sc.nd rfl (Or.inl rfl) ag)
   (af (bd (aB nM (pv 1) (au aO rfl nb.len aR (aa (pv 0) ae)) (aK _))
   (ah (ay (i:=2) sc.nd rfl (Or.inl rfl) (aC bc (pv 0) (pv 1) (fun _ _=>rfl))))
   aM)
   (af (ay (i:=3) sc.nd rfl (Or.inl rfl) (am aQ (am dD (am bt (am bt (am aQ (pv 2) ag) (am dD ag (pv 1))) ag) ag) ag))
   (ah (aL (am bt (am dD (am aU (pv 2) ag) ag) (am aQ (am bt (am dD (pv 3) ag) (pv 1)) ag))))))),?_⟩
  walk_at "wp"
  refine⟨_,hS,?_⟩
  rw[FS]
  split
  ·rename_i hlt
   have hlt':k<ns.length:=by omega
   refine⟨_,hS,V.int ns[k],aV (by rw[FU,FP hlt'];rfl),?_⟩
   walk_at "wp"
   exact q _
  ·exact q _
def fY(s:Nat):Nat:=match s with | 0=>1 | 1=>3 | 2=>5 | _=>7
def AQ(d s m:Nat):List Nat:=(List.range (1+m)).map fun i=>97+(d+i*fY s)%26
theorem zz:∀d,d<26->∀s,s<4->∀m,m<4->cL (AQ d s m)=true:=by decide +kernel
theorem yP:∀n,n<4->([V.int 1,V.int 3,V.int 5,V.int 7]:List V)[n]?=some (V.int (fY n:Nat))/\fY n<=7
 |0,_=>⟨rfl,by decide⟩
 |1,_=>⟨rfl,by decide⟩
 |2,_=>⟨rfl,by decide⟩
 |3,_=>⟨rfl,by decide⟩
theorem yK:∀n,n<26->(Str.ofString "abcdefghijklmnopqrstuvwxyz").cps.toList[n]?=some (97+n):=by decide +kernel
theorem jI{r:List Nat}(h:cL r=true):1<=r.length/\r.length<=4:=by
 unfold cL at h
 simp only[Bool.and_eq_true,decide_eq_true_eq]at h
 exact⟨h.1.1.1,h.1.1.2⟩
abbrev lj:Stmt:=h7 45
def m4:Sp:=fun vs H Q _=>∃(c:Int),vs=[.int c,.int 4]/\∀(r:List Nat) (H':Hp),cL r=true->aq H H'->Q (.str (tx r)) H'
theorem tY:aI ["_law_cell_here","_law_most","_law_letters","_law_step"] ["_law_cell_here","_law_most"] (ao lj):=by walk_at "c"
theorem ue{f:Addr}{fd:FuncData}(F:d9 K "_law_signs" "_law_signs" lj f fd)(nb:NB mg):bb P w K mg base bL 1 f fd ["_law_cell_here","_law_most"] m4:=by
 have sc:=tY
 walk_at "f"
 ·obtain⟨c,rfl,_⟩:=h;rfl
 ·obtain⟨c,rfl,q⟩:=h
  refine⟨_,(af (ay (i:=2) sc.nd rfl (Or.inr rfl) cV)
   (af (ay (i:=3) sc.nd rfl (Or.inr rfl) (aC aN (aW (br (br (br (br ae))))) (am aQ (am aU (pv 0) (pv 1)) ag) (fun _ _=>rfl)))
   (ah (aL (dm PySem.F.plainAttrs_str PySem.F.slot_str_join PySem.F.type_str_join mr cV (aa (cF ["_law_k"] [2,0,1,3] rfl (bz.of (by kernel_rfl)) (by kernel_rfl) (bR rfl nb.range (aa (am bt ag (am aQ (pv 0) (pv 1))) ae))
    (fun _ _ _ _=>(aF (i:=0) (by show(["_law_k","_law_letters","_law_cell_here","_law_most","_law_step"]:List Str).Nodup;decide +kernel) rfl (Or.inl rfl))) (fun _ _ _ _=>bU) (fun _ _ _ _=>(aC nj (pv 1) (am aQ (am bt (am aU (am aU (pv 2) (pv 3)) ag) (am dD (pv 0) (pv 4))) ag) (fun _ _=>rfl)))) ae)))))),?_⟩
  obtain⟨m,hm⟩:∃m:Nat,c%4=(m:Int):=⟨_,(GI (GG _ (by omega))).symm⟩
  obtain⟨s4,hs4⟩:∃m:Nat,c/4%4=(m:Int):=⟨_,(GI (GG _ (by omega))).symm⟩
  obtain⟨d,hd⟩:∃m:Nat,c/4/4%26=(m:Int):=⟨_,(GI (GG _ (by omega))).symm⟩
  have m2:m<4:=by have:=GH c (b:=4) (by omega);omega
  have s2:s4<4:=by have:=GH (c/4) (b:=4) (by omega);omega
  have d2:d<26:=by have:=GH (c/4/4) (b:=26) (by omega);omega
  walk_at "n"
  refine h1 _ _ ?_
  walk_at "nc"
  obtain⟨stp,stl⟩:=yP s4 s2
  refine⟨ak (by decide),fun p hp=>⟨_,bq.of ac,_,by rw[hs4];exact aV stp,h1 _ _ ?_⟩⟩
  clear h1
  have s1:aq H (ap H p (.tup [V.int 1,V.int 3,V.int 5,V.int 7])):=ad hp
  generalize ap H p (.tup [V.int 1,V.int 3,V.int 5,V.int 7])=H1 at s1 ⊢
  walk_at "wp"
  rw[hm]
  have en:(1+(m:Int)).toNat=1+m:=by omega
  rw[en]
  refine⟨rfl,by omega,by omega,?_⟩
  have chr:∀i:Nat,(c/4/4+(i:Int)*((fY s4:Nat):Int))%26=(((d+i*fY s4)%26:Nat):Int):=fun i=>by
   rw[Int.add_emod,hd]
   push_cast
   rw[Int.add_emod (d:Int) ((i:Int)*((fY s4:Nat):Int)),Int.emod_eq_of_lt (a:=(d:Int)) (by omega) (by omega)]
  refine fD (n:=1+m) (f:=fun i=>some (V.str ⟨#[97+(d+i*fY s4)%26]⟩)) (fun σ=>∃x,σ=[x,some (.str "abcdefghijklmnopqrstuvwxyz"),some (.int c),some (.int 4),some (.int ((fY s4:Nat):Int))]) ⟨_,rfl⟩ (by omega) ?_ ?_
  ·rintro i hi σ H' N1 N0 ⟨y,rfl⟩ sm k1 k0
   walk_at "wp"
   have hb:i*fY s4<=4*7:=Nat.mul_le_mul (by omega) stl
   have h2:(i:Int)*((fY s4:Nat):Int)=((i*fY s4:Nat):Int):=by push_cast;rfl
   refine⟨by omega,by decide,97+(d+i*fY s4)%26,?_,k1 _ _ _ rfl sm ⟨_,rfl⟩⟩
   rw[chr i]
   exact aV (yK _ (Nat.mod_lt _ (by omega)))
  ·intro H' sm l hl
   rw[jT]
   have e0:(List.range (1+m)).map (fun i=>V.str ⟨#[97+(d+i*fY s4)%26]⟩)=((AQ d s4 m).map fun c=>(⟨#[c]⟩:Str)).map V.str:=by
    unfold AQ;rw[F5,F5];rfl
   rw[e0]
   have hg:=zz d d2 s4 s2 m m2
   have hgl:=jI hg
   refine⟨_,.inl (aT.of ac),?_,?_⟩
   ·rw[F5]
    have e1:((fun y:Str=>y.length)∘fun c=>(⟨#[c]⟩:Str))=fun _=>1:=by funext c;rfl
    have e0:(Str.ofString "").length=0:=rfl
    rw[e1,List.map_const',List.sum_replicate_nat,FS,e0]
    omega
   ·rw[lF]
    exact q _ _ hg ((s1.trans sm).trans (ad hl))
theorem yg:∀n,n<26->(Str.ofString "ABCDEFGHIJKLMNOPQRSTUVWXYZ").cps.toList[n]?=some (65+n):=by decide +kernel
def zD(c:Nat):Bool:=BV AG c
theorem tz:∀n,n<26->zD (65+n)=true:=by decide +kernel
abbrev kN:Stmt:=h7 48
def nu:Sp:=fun vs H Q _=>∃(c:Int),vs=[.int c]/\∀(l:Addr) (p:bS) (H':Hp),H l=none->H' l=some (.lst (az p))->p.length=4->(∀r∈p,cz r=true)->aq H H'->Q (.ref l) H'
theorem uw:aI ["_law_cell_here","_law_letters","_law_rest","_law_word","_law_spot","_law_first","_law_step","_law_names_here","_law_k"] ["_law_cell_here"] (ao kN):=by walk_at "c"
theorem tT{f:Addr}{fd:FuncData}(F:d9 K "_law_names" "_law_names" kN f fd)(nb:NB mg):bb P w K mg base bL 1 f fd ["_law_cell_here"] nu:=by
 have sc:=uw
 walk_at "f"
 ·obtain⟨c,rfl,_⟩:=h;rfl
 ·obtain⟨c,rfl,q⟩:=h
  refine⟨_,(af (ay (i:=1) sc.nd rfl (Or.inr rfl) cV)
   (af (ay (i:=2) sc.nd rfl (Or.inr rfl) (am aU (pv 0) ag))
   (af (nG (i:=3) ["_law_k"] [1,2] sc.nd rfl (Or.inl rfl) rfl  rfl (bz.of (by kernel_rfl)) (by kernel_rfl) (bR rfl nb.range (aa (am bt ag (am aQ (pv 0) ag)) ae))
    (fun _ _ _ _=>(aF (i:=0) (by show(["_law_k","_law_letters","_law_rest"]:List Str).Nodup;decide +kernel) rfl (Or.inl rfl))) (fun _ _ _ _=>bU) (fun _ _ _ _=>(aC nj (pv 1) (am aQ (am aU (pv 2) (am bt ag (am dD ag (pv 0)))) ag) (fun _ _=>rfl))))
   (af (ay (i:=4) sc.nd rfl (Or.inl rfl) (am aQ (pv 2) (au aO rfl nb.len aR (aa (pv 3) ae))))
   (af (ay (i:=5) sc.nd rfl (Or.inl rfl) (dm PySem.F.plainAttrs_str PySem.F.slot_str_find PySem.F.type_str_find zf (pv 1) (aa (aC bc (pv 3) (pv 4) (fun _ _=>rfl)) ae)))
   (af (ay (i:=6) sc.nd rfl (Or.inl rfl) (am dD (am bt ag (am aQ (am aU (pv 2) ag) ag)) (am aQ (am aU (pv 0) ag) ag)))
   (af (ay (i:=7) sc.nd rfl (Or.inl rfl) (bf ae))
   (af (bD PassesOwn.never rfl (bR rfl nb.range (br ae)) (aF (i:=8) sc.nd rfl (Or.inl rfl))
   (af (ld (aC nj (pv 1) (am aQ (am bt (pv 5) (am dD (pv 8) (pv 6))) ag) (fun _ _=>rfl)) (Ba (pv 3) (pv 4) xo))
   (ah (bE (dm PySem.F.plainAttrs_list PySem.F.slot_list_append PySem.F.type_list_append b7 (pv 7) (aa (dm PySem.F.plainAttrs_str PySem.F.slot_str_join PySem.F.type_str_join mr cV (aa (pv 3) ae)) ae))))))
   (ah (aL (pv 7))))))))))),?_⟩
  obtain⟨m,hm⟩:∃m:Nat,c%4=(m:Int):=⟨_,(GI (GG _ (by omega))).symm⟩
  have m2:m<4:=by have:=GH c (b:=4) (by omega);omega
  walk_at "n"
  refine h1 _ _ ?_
  walk_at "nc"
  refine h1 _ _ ?_
  walk_at "nc"
  rw[hm]
  have en:(1+(m:Int)).toNat=1+m:=by omega
  rw[en]
  refine⟨by omega,by omega,?_⟩
  have up26:∀x:Int,∃n:Nat,n<26/\x%26=(n:Int):=fun x=>⟨(x%26).toNat,by have:=GH x (b:=26) (by omega);omega,by have:=GG x (b:=26) (by omega);omega⟩
  let fc:Nat->Nat:=fun i=>65+(c/8/(1+7*(i:Int))%26).toNat
  refine fD (n:=1+m) (f:=fun i=>some (V.str ⟨#[fc i]⟩)) (fun σ=>∃x,σ=[x,some (.str "ABCDEFGHIJKLMNOPQRSTUVWXYZ"),some (.int (c/8))]) ⟨_,rfl⟩ (by omega) ?_ ?_
  ·rintro i hi σ H' N1 N0 ⟨y,rfl⟩ sm k1 k0
   walk_at "wp"
   obtain⟨n,h1,h2⟩:=up26 (c/8/(1+7*(i:Int)))
   refine⟨by omega,by omega,by decide,fc i,?_,k1 _ _ _ rfl sm ⟨_,rfl⟩⟩
   show hZ _ _=some (65+(c/8/(1+7*(i:Int))%26).toNat)
   rw[h2]
   exact aV (yg n h1)
  ·intro H' sm l hl
   rw[jT]
   have e0:(List.range (1+m)).map (fun i=>V.str ⟨#[fc i]⟩)=(((List.range (1+m)).map fc).map fun c=>V.str ⟨#[c]⟩):=by rw[F5];rfl
   rw[e0]
   have hcs:∀x∈(List.range (1+m)).map fc,zD x=true:=fun x hx=>by
    obtain⟨i,_,rfl⟩:=GA.mp hx
    obtain⟨n,h1,h2⟩:=up26 (c/8/(1+7*(i:Int)))
    show zD (65+(c/8/(1+7*(i:Int))%26).toNat)=true
    rw[h2]
    exact tz n h1
   have hcl:((List.range (1+m)).map fc).length=1+m:=by simp
   generalize(List.range (1+m)).map fc=cs at hcs hcl ⊢
   refine h1 _ _ ?_
   clear h1
   have s1:aq H (ap H' l (.lst (cs.map fun c=>V.str ⟨#[c]⟩))):=sm.trans (ad hl)
   have e1:ap H' l (.lst (cs.map fun c=>V.str ⟨#[c]⟩)) l=some (.lst (cs.map fun c=>V.str ⟨#[c]⟩)):=ac
   generalize ap H' l (.lst (cs.map fun c=>V.str ⟨#[c]⟩))=H1 at s1 e1 ⊢
   have fr:H l=none:=sm.free hl
   walk_at "n"
   have lm:(cs.map fun c=>V.str ⟨#[c]⟩).length=1+m:=by rw[FS,hcl]
   refine⟨_,aT.of e1,by rw[lm];omega,h1 _ _ ?_⟩
   clear h1
   rw[lm]
   obtain⟨k,hk⟩:∃k:Nat,c/8%((1+m:Nat):Int)=(k:Int):=⟨_,(GI (GG _ (by omega))).symm⟩
   have hk2:k<1+m:=by have:=GH (c/8) (b:=((1+m:Nat):Int)) (by omega);omega
   rw[hk]
   walk_at "n"
   refine⟨rfl,_,aT.of e1,V.str ⟨#[cs[k]'(by omega)]⟩,aV (by rw[FU,FP (by omega)];rfl),_,rfl,fun fi=>h1 _ _ ?_⟩
   walk_at "nc"
   refine⟨.inr ⟨by omega,by omega⟩,h1 _ _ ?_⟩
   clear h1
   generalize(1+c/8/5%8)*(c/4%2)=st
   walk_at "n"
   refine⟨ak (by decide),fun ln hn=>h1 _ _ ?_⟩
   clear h1
   have hnl:l≠ln:=fun e=>by rw[<- e,e1]at hn;cases hn
   have s2:aq H (ap H1 ln (.lst [])):=s1.trans (ad hn)
   have e2:ap H1 ln (.lst []) l=some (.lst (cs.map fun c=>V.str ⟨#[c]⟩)):=by rw[aj hnl];exact e1
   have e3:ap H1 ln (.lst []) ln=some (.lst (az [])):=ac
   have frn:H ln=none:=s1.free hn
   generalize ap H1 ln (.lst [])=H2 at s2 e2 e3 ⊢
   walk_at "n"
   refine⟨by decide,?_⟩
   refine eY (n:=4) (fun i σ H'=>aq H H'/\(∃ds:List Nat,H' l=some (.lst (ds.map fun c=>V.str ⟨#[c]⟩))/\(∀x∈ds,zD x=true)/\ds.length=1+m)/\(∃p:bS,H' ln=some (.lst (az p))/\p.length=i/\∀r∈p,cz r=true)/\∃x,σ=[some (V.int c),some (V.str (Str.ofString "ABCDEFGHIJKLMNOPQRSTUVWXYZ")),some (V.int (c/8)),some (V.ref l),some (V.int k),some (V.int fi),some (V.int st),some (V.ref ln),x]) ⟨s2,⟨cs,e2,hcs,hcl⟩,⟨[],e3,rfl,fun r hr=>nomatch hr⟩,_,rfl⟩ ?_ ?_
   ·rintro i σ H' hi ⟨sm',⟨ds,hds,dcap,dl⟩,⟨p,hp,pl,pn⟩,x,rfl⟩
    walk_at "wp"
    obtain⟨n,hn1,hn2⟩:=up26 (fi+(i:Int)*st)
    have nm:cz (ds.set k (65+n))=true:=by
     have hall:(ds.set k (65+n)).all (BV AG)=true:=GB.mpr fun x hx=>by
      rcases List.mem_or_eq_of_mem_set hx with h | h
      ·exact dcap x h
      ·rw[h];exact tz n hn1
     unfold cz fZ
     rw[hall,GF,dl]
     simp
     omega
    have es:(ds.map fun c=>V.str ⟨#[c]⟩).set k (V.str ⟨#[65+n]⟩)=(ds.set k (65+n)).map fun c=>V.str ⟨#[c]⟩:=by rw[List.map_set]
    refine⟨.inl ⟨by omega,by omega⟩,by decide,65+n,by rw[hn2];exact aV (yg n hn1),_,hds,k,by rw[FS,dl];unfold zd;rw[if_pos (by omega),if_pos (by omega)];simp,?_⟩
    rw[es]
    have t1:ap H' l (.lst ((ds.set k (65+n)).map fun c=>V.str ⟨#[c]⟩)) l=some (.lst ((ds.set k (65+n)).map fun c=>V.str ⟨#[c]⟩)):=ac
    have t2:ap H' l (.lst ((ds.set k (65+n)).map fun c=>V.str ⟨#[c]⟩)) ln=some (.lst (az p)):=by rw[aj (Ne.symm hnl)];exact hp
    have t3:aq H (ap H' l (.lst ((ds.set k (65+n)).map fun c=>V.str ⟨#[c]⟩))):=aX sm' fr
    generalize ap H' l (.lst ((ds.set k (65+n)).map fun c=>V.str ⟨#[c]⟩))=H3 at t1 t2 t3 ⊢
    refine⟨.inl ⟨rfl,_,aT.of t2⟩,rfl,(ds.set k (65+n)).map fun c=>(⟨#[c]⟩:Str),.inl (aT.of (by rw[t1,F5];rfl)),?_,_,t2,?_,?_⟩
    ·have e1:((fun y:Str=>y.length)∘fun c=>(⟨#[c]⟩:Str))=fun _=>1:=by funext c;rfl
     have e0:(Str.ofString "").length=0:=rfl
     rw[F5,e1,List.map_const',List.sum_replicate_nat,FS,e0,GF]
     omega
    ·rw[aJ,pl];exact bw (by omega)
    ·rw[lF]
     refine⟨aX t3 frn,⟨ds.set k (65+n),by rw[aj hnl];exact t1,fun x hx=>?_,by rw[GF,dl]⟩,p++[ds.set k (65+n)],?_,by rw[Gb,pl];rfl,fun r hr=>?_⟩
     ·rcases List.mem_or_eq_of_mem_set hx with h | h
      ·exact dcap x h
      ·rw[h];exact tz n hn1
     ·rw[ac];unfold az;rw[F3];rfl
     ·rcases F4.mp hr with h | h
      ·exact pn r h
      ·rw[FT.mp h];exact nm
   ·rintro σ H' ⟨sm',_,⟨p,hp,pl,pn⟩,x,rfl⟩
    refine h1 _ _ ?_
    walk_at "wp"
    exact q ln p H' frn hp pl pn sm'
theorem eu{H:Hp}{a b:Addr}{xs ys:List V}{Q:VK}(ha:H a=some (.tup xs))(hb:H b=some (.tup ys))(hx:xs≠[])(hy:ys≠[])(hz:xs.length+ys.length<=1000)(q:∀p,H p=none->Q (.ref p) (ap H p (.tup (xs++ys)))):yz K (.ref a) (.ref b) H Q:=
 ⟨a,b,xs,ys,rfl,rfl,bq.of ha,bq.of hb,hx,ak (by omega),fun e=>absurd e hy,fun _=>q⟩
def dU(r:Nat×RV):List V:=match r.1 with
 |0=>[.str "cell",.str (tx r.2.n),.int r.2.c,.str (tx r.2.sg)]
 |1=>[.str "beside",.str (tx r.2.n),.int r.2.c,.str (tx r.2.o1),.str (tx r.2.o2)]
 |2=>[.str "above",.str (tx r.2.n),.int r.2.c,.str (tx r.2.o1),.str (tx r.2.o2)]
 |_=>[.str "turned",.str (tx r.2.n),.int r.2.c,.str (tx r.2.o1),.int r.2.t]
def b9(H:Hp)(l:Addr)(ts:List Addr)(rs:List (Nat×RV)):Prop:=H l=some (.lst (ts.map V.ref))/\ts.length=rs.length/\∀(i:Nat) t r,ts[i]?=some t->rs[i]?=some r->H t=some (.tup (dU r))
theorem b9.up{H H':Hp}{l:Addr}{ts:List Addr}{rs:List (Nat×RV)}(h:b9 H l ts rs)(s:aq H H'):b9 H' l ts rs:=⟨s _ _ h.1,h.2.1,fun i t r e1 e2=>s _ _ (h.2.2 i t r e1 e2)⟩
theorem DP:V.str (Str.ofString "beside")≠V.str (Str.ofString "cell"):=fun h=>absurd (V.str.inj h) (by decide +kernel)
theorem DY:V.str (Str.ofString "above")≠V.str (Str.ofString "cell"):=fun h=>absurd (V.str.inj h) (by decide +kernel)
theorem DT:V.str (Str.ofString "turned")≠V.str (Str.ofString "cell"):=fun h=>absurd (V.str.inj h) (by decide +kernel)
theorem DW:V.str (Str.ofString "above")≠V.str (Str.ofString "beside"):=fun h=>absurd (V.str.inj h) (by decide +kernel)
theorem Es:V.str (Str.ofString "turned")≠V.str (Str.ofString "beside"):=fun h=>absurd (V.str.inj h) (by decide +kernel)
theorem EJ:V.str (Str.ofString "turned")≠V.str (Str.ofString "above"):=fun h=>absurd (V.str.inj h) (by decide +kernel)
theorem E8:V.str (Str.ofString "beside")≠V.str (Str.ofString "turned"):=fun h=>absurd (V.str.inj h) (by decide +kernel)
theorem EE:V.str (Str.ofString "above")≠V.str (Str.ofString "turned"):=fun h=>absurd (V.str.inj h) (by decide +kernel)
theorem mm{k:Nat}(h:k<4):k=0\/k=1\/k=2\/k=3:=by omega
structure so(r:Nat×RV):Prop where
 k4:r.1<4
 good:r.2.good
 small:r.2.small
abbrev nE:Stmt:=h7 51
def kU(R:RC):Sp:=fun vs H Q _=>∃(t:Addr) (r:Nat×RV),vs=[.ref t]/\H t=some (.tup (dU r))/\so r/\∀b H',jg R H' r.1 b r.2->aq H H'->Q (.ref b) H'
theorem v1:aI ["_law_told"] ["_law_told"] (ao nE):=by walk_at "c"
theorem wn{R:RC}{f CF:Addr}{fd:FuncData}(F:d9 K "_law_rule_made" "_law_rule_made" nE f fd)(nb:NB mg)(rk:lZ K R)
  (zYa:m5 P w K mg base (dP P w) 4 "CellRule" R.cc ["self","name","cost","sign"] (gR K CF)) (zNa:m5 P w K mg base (dP P w) 4 "BesideRule" R.cb ["self","name","cost","one","other"] (cD K CF))
  (zRa:m5 P w K mg base (dP P w) 4 "AboveRule" R.ca ["self","name","cost","one","other"] (cD K CF)) (zZa:m5 P w K mg base (dP P w) 4 "TurnRule" R.ct ["self","name","cost","part","turning"] (gY K CF)):bb P w K mg base bL 6 f fd ["_law_told"] (kU R):=by
 have sc:=v1
 walk_at "f"
 ·obtain⟨t,r,rfl,_⟩:=h;rfl
 ·obtain⟨t,⟨k,v⟩,rfl,ht,⟨hk,g,sm⟩,good⟩:=h
  refine⟨_,(af (bd (aB dB (aC aN (pv 0) ag (fun _ _=>rfl)) cV (aK _))
   (ah (aL (jQ (CX:=dP P w) zYa (hr.mono (by decide)) rfl bJ (aa (aC aN (pv 0) ag (fun _ _=>rfl)) (aa (aC aN (pv 0) ag (fun _ _=>rfl)) (aa (aC aN (pv 0) ag (fun _ _=>rfl)) ae))))))
   aM)
   (af (bd (aB dB (aC aN (pv 0) ag (fun _ _=>rfl)) cV (aK _))
   (ah (aL (jQ (CX:=dP P w) zNa (hr.mono (by decide)) rfl bJ (aa (aC aN (pv 0) ag (fun _ _=>rfl)) (aa (aC aN (pv 0) ag (fun _ _=>rfl)) (aa (aC aN (pv 0) ag (fun _ _=>rfl)) (aa (aC aN (pv 0) ag (fun _ _=>rfl)) ae)))))))
   aM)
   (af (bd (aB dB (aC aN (pv 0) ag (fun _ _=>rfl)) cV (aK _))
   (ah (aL (jQ (CX:=dP P w) zRa (hr.mono (by decide)) rfl bJ (aa (aC aN (pv 0) ag (fun _ _=>rfl)) (aa (aC aN (pv 0) ag (fun _ _=>rfl)) (aa (aC aN (pv 0) ag (fun _ _=>rfl)) (aa (aC aN (pv 0) ag (fun _ _=>rfl)) ae)))))))
   aM)
   (ah (aL (jQ (CX:=dP P w) zZa (hr.mono (by decide)) rfl bJ (aa (aC aN (pv 0) ag (fun _ _=>rfl)) (aa (aC aN (pv 0) ag (fun _ _=>rfl)) (aa (aC aN (pv 0) ag (fun _ _=>rfl)) (aa (aC aN (pv 0) ag (fun _ _=>rfl)) ae)))))))))),?_⟩
  have sq:=bq.of (K:=K) ht
  have g:v.good:=g
  have sm:v.small:=g.small
  have bn:v.n.length<=100000:=by have:=sm.n;omega
  have b1:v.o1.length<=100000:=by have:=sm.o1;omega
  have b2:v.o2.length<=100000:=by have:=sm.o2;omega
  have bs:v.sg.length<=100000:=by have:=sm.sg;omega
  walk_at "wp"
  rcases mm hk with rfl | rfl | rfl | rfl
  ·change bq K H t [.str (Str.ofString "cell"),.str (tx v.n),.int v.c,.str (tx v.sg)]at sq
   refine⟨_,sq,_,rfl,rfl,?_⟩
   rw[if_pos rfl]
   refine⟨_,sq,_,rfl,_,sq,_,rfl,_,sq,_,rfl,fun x dx hx hd hne=>?_⟩
   exact⟨x,R.cc,dx,v.n,v.sg,v.c,rfl,ac,rk.i0.cl,rk.a0,bn,bs,fun ok pl H' sx hpl hl' ha=>⟨rfl,good x H' ⟨dx,pl,ha,hl'⟩ (iT hx hd sx)⟩,fun nok=>absurd (g.ok 0) nok⟩
  ·change bq K H t [.str (Str.ofString "beside"),.str (tx v.n),.int v.c,.str (tx v.o1),.str (tx v.o2)]at sq
   refine⟨_,sq,_,rfl,rfl,?_⟩
   rw[if_neg DP]
   refine⟨_,sq,_,rfl,rfl,?_⟩
   rw[if_pos rfl]
   refine⟨_,sq,_,rfl,_,sq,_,rfl,_,sq,_,rfl,_,sq,_,rfl,fun x dx hx hd hne=>?_⟩
   exact⟨x,R.cb,dx,v.n,v.o1,v.o2,v.c,rfl,ac,rk.i1.cl,rk.a1,bn,b1,b2,fun ok pl H' sx hpl hl' ha=>⟨rfl,good x H' ⟨dx,pl,ha,hl'⟩ (iT hx hd sx)⟩,fun nok=>absurd (g.ok 1) nok⟩
  ·change bq K H t [.str (Str.ofString "above"),.str (tx v.n),.int v.c,.str (tx v.o1),.str (tx v.o2)]at sq
   refine⟨_,sq,_,rfl,rfl,?_⟩
   rw[if_neg DY]
   refine⟨_,sq,_,rfl,rfl,?_⟩
   rw[if_neg DW]
   refine⟨_,sq,_,rfl,rfl,?_⟩
   rw[if_pos rfl]
   refine⟨_,sq,_,rfl,_,sq,_,rfl,_,sq,_,rfl,_,sq,_,rfl,fun x dx hx hd hne=>?_⟩
   exact⟨x,R.ca,dx,v.n,v.o1,v.o2,v.c,rfl,ac,rk.i2.cl,rk.a2,bn,b1,b2,fun ok pl H' sx hpl hl' ha=>⟨rfl,good x H' ⟨dx,pl,ha,hl'⟩ (iT hx hd sx)⟩,fun nok=>absurd (g.ok 2) nok⟩
  ·change bq K H t [.str (Str.ofString "turned"),.str (tx v.n),.int v.c,.str (tx v.o1),.int v.t]at sq
   refine⟨_,sq,_,rfl,rfl,?_⟩
   rw[if_neg DT]
   refine⟨_,sq,_,rfl,rfl,?_⟩
   rw[if_neg Es]
   refine⟨_,sq,_,rfl,rfl,?_⟩
   rw[if_neg EJ]
   refine⟨_,sq,_,rfl,_,sq,_,rfl,_,sq,_,rfl,_,sq,_,rfl,fun x dx hx hd hne=>?_⟩
   exact⟨x,R.ct,dx,v.n,v.o1,v.c,v.t,rfl,ac,rk.i3.cl,rk.a3,bn,b1,fun ok pl H' sx hpl hl' ha=>⟨rfl,good x H' ⟨dx,pl,ha,hl'⟩ (iT hx hd sx)⟩,fun nok=>absurd (g.ok 3) nok⟩
structure g_(p:bS)(sg:List Nat)(r:Nat×RV):Prop where
 good:so r
 n:r.2.n∈p
 o1:r.2.o1∈p
 o2:r.2.o2∈p
 sg:∃c∈sg,r.2.sg=[c]
theorem b9.app{H:Hp}{l t:Addr}{ts:List Addr}{rs:List (Nat×RV)}{r:Nat×RV}(h:b9 H l ts rs)(ht:H t=some (.tup (dU r))):b9 (ap H l (.lst (ts.map V.ref++[V.ref t]))) l (ts++[t]) (rs++[r]):=by
 obtain⟨h1,h2,h3⟩:=h
 refine⟨by rw[ac,F3];rfl,by rw[Gb,Gb,h2];rfl,fun i t' r' e1 e2=>?_⟩
 have hold:∀t' r',H t'=some (.tup (dU r'))->ap H l (.lst (ts.map V.ref++[V.ref t])) t'=some (.tup (dU r')):=fun t' r' e=>by
  rw[aj (fun z=>by rw[z,h1]at e;cases e)];exact e
 by_cases hi:i<ts.length
 ·rw[Ga hi]at e1
  rw[Ga (by omega)]at e2
  exact hold _ _ (h3 i t' r' e1 e2)
 ·rw[F' (by omega)]at e1
  rw[F' (by omega)]at e2
  have hi2:i=ts.length:=by
   have:=(FQ.mp e1).1
   simp at this;omega
  subst hi2
  rw[Nat.sub_self]at e1
  rw[h2,Nat.sub_self]at e2
  cases e1;cases e2
  exact hold _ _ ht
theorem su{r:List Nat}(h:cL r=true):fZ r mK=true:=by
 unfold cL at h
 simp only[Bool.and_eq_true,decide_eq_true_eq]at h
 exact h.1.2
theorem zq{r:List Nat}{c:Nat}(h:cL r=true)(hc:c∈r):gZ [c]=true:=by
 have:=su h
 unfold fZ at this
 rw[GB]at this
 unfold gZ fZ
 rw[List.all_cons,this c hc]
 rfl
def cw(ks:List Str)(z:Str):List Str:=if z∈ks then ks else ks++[z]
theorem pB(m:List (Str×List Nat))(z:Str):(bA m z).map (·.1)=cw (m.map (·.1)) z:=by
 unfold bA cw
 split
 ·rfl
 ·rw[F3];rfl
theorem mv:∀(zs:List Str) (m:List (Str×List Nat)),(zs.foldl bA m).map (·.1)=zs.foldl cw (m.map (·.1))
 | [],_=>rfl
 |z::zs,m=>by rw[List.foldl_cons,List.foldl_cons,mv zs,pB]
theorem vF(m:List (Str×List Nat))(i:Nat)(r:Nat×RV):(dL m i r).map (·.1)=(tx r.2.n::(bg r.1 r.2).map tx).foldl cw (m.map (·.1)):=by
 unfold dL
 rw[mv,gB,pB,List.foldl_cons]
theorem tZ(ks:List Str)(z:Str):(cw ks z).length<=ks.length+1:=by
 unfold cw;split
 ·omega
 ·simp
def mS(z:Str)(rs:List (Nat×RV)):List Nat:=rs.zipIdx.filterMap fun x=>if tx x.1.2.n=z then some x.2 else none
theorem tj(z:Str)(rs:List (Nat×RV))(r:Nat×RV):mS z (rs++[r])=mS z rs++if tx r.2.n=z then[rs.length] else[]:=by
 unfold mS
 rw[List.zipIdx_append,List.filterMap_append]
 congr 1
 simp
 split<;>rename_i h<;>simp[h]
theorem uk{z:Str}:∀{rs:List (Nat×RV)},(∀r∈rs,tx r.2.n≠z)->mS z rs=[]:=by
 intro rs h
 unfold mS
 rw[List.filterMap_eq_nil_iff]
 intro x hx
 rw[if_neg (h x.1 (List.fst_mem_of_mem_zipIdx hx))]
structure NI(rs:List (Nat×RV))(m:List (Str×List Nat)):Prop where
 nd:(m.map (·.1)).Nodup
 ix:∀q∈m,q.2=mS q.1 rs
 all:∀r∈rs,tx r.2.n∈m.map (·.1)
theorem nz{m:List (Str×List Nat)}{z y:Str}:y∈(bA m z).map (·.1)↔y∈m.map (·.1)\/y=z:=by
 unfold bA
 split
 ·rename_i h
  exact⟨fun q=>.inl q,fun q=>q.elim id fun e=>e▸h⟩
 ·rw[F3,F4];simp
theorem NI.name{rs:List (Nat×RV)}{m:List (Str×List Nat)}(h:NI rs m)(z:Str):NI rs (bA m z):=by
 refine⟨j8 h.nd,fun q hq=>?_,fun r hr=>nz.mpr (.inl (h.all r hr))⟩
 unfold bA at hq
 split at hq
 ·exact h.ix q hq
 ·rename_i hz
  rcases F4.mp hq with q1 | q1
  ·exact h.ix q q1
  ·rw[FT.mp q1]
   exact(uk (z:=z) fun r hr e=>hz (by rw[<- e];exact h.all r hr)).symm
theorem NI.names{rs:List (Nat×RV)}:∀(zs:List Str) {m:List (Str×List Nat)},NI rs m->NI rs (zs.foldl bA m)
 | [],_,h=>h
 |z::zs,m,h=>NI.names zs (h.name z)
theorem NI.put{rs:List (Nat×RV)}{m:List (Str×List Nat)}{r:Nat×RV}(h:NI rs m)(hn:tx r.2.n∈m.map (·.1)):NI (rs++[r]) (hU m (tx r.2.n) rs.length):=by
 refine⟨by rw[gB];exact h.nd,fun q hq=>?_,fun r' hr'=>?_⟩
 ·unfold hU at hq
  obtain⟨p,hp,rfl⟩:=GA.mp hq
  rw[tj]
  by_cases e:p.1=tx r.2.n
  ·rw[if_pos e]
   show p.2++[rs.length]=mS p.1 rs++_
   rw[if_pos e.symm,h.ix p hp]
  ·rw[if_neg e,if_neg (fun z=>e z.symm),Gq]
   exact h.ix p hp
 ·rw[gB]
  rcases F4.mp hr' with q | q
  ·exact h.all r' q
  ·rw[FT.mp q];exact hn
theorem o6(z:Str):∀(n:Nat) (rs:List (Nat×RV)),rs.length=n->NI rs (bW z rs)
 |0,rs,h=>by
  rw[Gz.mp h]
  exact⟨by simp[bW,eW],fun q hq=>by rw[show q=(z,[]) by simpa[bW,eW]using hq];rfl,fun r hr=>nomatch hr⟩
 |n+1,rs,h=>by
  obtain⟨rs',r,rfl⟩:∃rs' r,rs=rs'++[r]:=⟨rs.dropLast,rs.getLast (by intro e;rw[e]at h;cases h),(List.dropLast_concat_getLast _).symm⟩
  have hl:rs'.length=n:=by rw[Gb,List.length_singleton]at h;omega
  have ih:=o6 z n rs' hl
  unfold bW at ih ⊢
  rw[fE,Nat.zero_add]
  unfold dL
  exact((ih.name (tx r.2.n)).put (nz.mpr (.inr rfl))).names _
theorem sL{R:RC}{H:Hp}{l:Addr}{ts:List Addr}{rs:List (Nat×RV)}{Q:List V->Hp->Prop}(hR:b9 H l ts rs)(hg:∀r∈rs,so r)(hn:rs.length<=100)(q:∀(as:List Addr) H',aq H H'->cB R H' as rs->Q (as.map V.ref) H') :
  jd (yG K l) (bZ 0) uz (pj (kU R) [] E0 (j9 (b5 0) qK)) [none] H Q:=by
 obtain⟨hl,htl,hat⟩:=hR
 refine oB (xs:=ts.map V.ref) (fun i acc σ H'=>aq H H'/\(∃as:List Addr,acc=as.map V.ref/\cB R H' as (rs.take i))/\i<=ts.length/\∃x,σ=[x]) ⟨aq.refl _,⟨[],rfl,rfl,fun i a r e=>by simp at e⟩,Gd _,_,rfl⟩ ?_ ?_ ?_ ?_ ?_
 ·rintro i acc σ H' ⟨_,⟨as,rfl,h,_⟩,hi,_⟩
  rw[FS,h,Gw];exact bw (by omega)
 ·rintro i acc σ H' ⟨_,_,h,_⟩
  rw[FS];exact h
 ·rintro i acc σ H' ⟨sm,_⟩
  exact aT.of (sm _ _ hl)
 ·rintro i x acc σ H' hx ⟨sm,⟨as,rfl,hA⟩,hi,y,rfl⟩
  have hlt:i<ts.length:=by have:=(FQ.mp hx).1;rwa [FS]at this
  rw[FU,FP hlt]at hx
  cases hx
  have hlr:i<rs.length:=by omega
  have hrr:rs[i]?=some rs[i]:=FP hlr
  have ht:=sm _ _ (hat i ts[i] rs[i] (FP hlt) hrr)
  walk_at "wp"
  refine⟨ts[i],rs[i],rfl,ht,hg _ (FZ hlr),fun b H2 hb s2=>⟨sm.trans s2,⟨as++[b],by rw[F3];rfl,?_⟩,hlt⟩⟩
  have hal:as.length=i:=by have:=hA.1;rw[Gw]at this;omega
  rw[List.take_add_one,hrr]
  refine⟨by rw[Gb,Gb,hA.1];rfl,fun j a r e1 e2=>?_⟩
  by_cases hj:j<as.length
  ·rw[Ga hj]at e1
   rw[Ga (by rw[<- hA.1];exact hj)]at e2
   exact(hA.2 j a r e1 e2).up s2
  ·rw[F' (by omega)]at e1
   rw[F' (by rw[<- hA.1];omega)]at e2
   have:j-as.length=0:=by
    have:=(FQ.mp e1).1
    simp at this;omega
   rw[this]at e1
   rw[<- hA.1,this]at e2
   cases e1;cases e2
   exact hb
 ·rintro acc σ H' ⟨sm,⟨as,rfl,hA⟩,_⟩
  rw[FS,htl,Gv]at hA
  exact q as H' sm hA
def BZ(rs:List (Nat×RV)):List ThM.NR:=rs.map fun r=>(tx r.2.n,(bg r.1 r.2).map tx)
theorem uc{ks:List Str}{z y:Str}:y∈cw ks z↔y∈ks\/y=z:=ThM.mem_addNew
theorem jU{y:Str}:∀(zs ks:List Str),y∈zs.foldl cw ks↔y∈ks\/y∈zs
 | [],ks=>by simp
 |z::zs,ks=>by
  rw[List.foldl_cons,jU zs,uc,F6]
  exact⟨fun h=>h.elim (fun h=>h.elim .inl fun e=>.inr (.inl e)) fun h=>.inr (.inr h),fun h=>h.elim (fun h=>.inl (.inl h)) fun h=>h.elim (fun e=>.inl (.inr e)) .inr⟩
theorem jW:∀(zs ks:List Str),(zs.foldl cw ks).length<=ks.length+zs.length
 | [],ks=>Gc _
 |z::zs,ks=>by
  have h1:=jW zs (cw ks z)
  have h2:=tZ ks z
  rw[List.foldl_cons,F2];omega
theorem vm(z:Str)(rs:List (Nat×RV))(r:Nat×RV):(bW z (rs++[r])).map (·.1)=(tx r.2.n::(bg r.1 r.2).map tx).foldl cw ((bW z rs).map (·.1)):=by
 unfold bW
 rw[fE,vF]
theorem yD{α:Type}{P:List α->Prop}(h0:P [])(h1:∀rs r,P rs->P (rs++[r]))(rs:List α):P rs:=by
 have:∀(n:Nat) (rs:List α),rs.length=n->P rs:=by
  intro n
  induction n with
  |zero=>intro rs h;rw[Gz.mp h];exact h0
  |succ n ih=>
   intro rs h
   have hne:rs≠[]:=by intro e;rw[e]at h;cases h
   rw[<- List.dropLast_concat_getLast hne]
   exact h1 _ _ (ih _ (by rw[List.length_dropLast];omega))
 exact this _ rs rfl
theorem yr(z:Str)(rs:List (Nat×RV)):∀y,y∈(bW z rs).map (·.1)↔y=z\/∃r∈BZ rs,y=r.1\/y∈r.2:=by
 refine yD (P:=fun rs=>∀y,y∈(bW z rs).map (·.1)↔y=z\/∃r∈BZ rs,y=r.1\/y∈r.2) ?_ ?_ rs
 ·intro y
  have e:(bW z []).map (·.1)=[z]:=rfl
  rw[e]
  unfold BZ
  simp
 ·intro rs r ih y
  rw[vm,jU,ih y,F6]
  unfold BZ
  rw[F3]
  constructor
  ·rintro((h | ⟨q,hq,h⟩) | h)
   ·exact .inl h
   ·exact .inr ⟨q,F4.mpr (.inl hq),h⟩
   ·exact .inr ⟨_,F4.mpr (.inr (FT.mpr rfl)),h⟩
  ·rintro(h | ⟨q,hq,h⟩)
   ·exact .inl (.inl h)
   ·rcases F4.mp hq with hq | hq
    ·exact .inl (.inr ⟨q,hq,h⟩)
    ·rw[FT.mp hq]at h
     exact .inr h
theorem ze{sg:List Nat}{c:Nat}(h:c∈sg):Cl (tx sg) (tx [c])=true:=by
 have:=StrLaws.found_one (tx sg) c
 show(!(Builtin.Str.occurrences (tx sg) ⟨#[c]⟩ 0 (tx sg).length 1).isEmpty)=true
 rw[this,fA,decide_eq_true h]
theorem j'{sg:List Nat}:∀{rs:List (Nat×RV)} {j:Nat},(∀r∈rs,∃c∈sg,r.2.sg=[c])->ft (tx sg) rs j=none
 | [],_,_=>rfl
 |r::rs,j,h=>by
  obtain⟨c,hc,e⟩:=h r List.mem_cons_self
  unfold ft
  rw[if_neg (fun z=>by rw[e,ze hc]at z;exact absurd z.2 (by decide))]
  exact j' fun r' hr'=>h r' (F7 _ hr')
theorem v5{p:bS}{sg st:List Nat}{rs:List (Nat×RV)}(hsg:cL sg=true)(hst:st∈p)(hpn:∀r∈p,cz r=true)(hp:p.length<=8)(hn:rs.length<=24)(hr:∀r∈rs,g_ p sg r):iu sg st rs=none:=by
 have h0:gs sg st rs=none:=by
  unfold gs
  rw[if_neg (by rw[hsg];decide),if_neg (by rw[hpn _ hst];decide),if_neg (by omega),j' fun r h=>(hr r h).sg]
 unfold iu
 rw[h0]
 simp only[]
 rw[if_neg]
 have hk:∀z∈(bW (tx st) rs).map (·.1),z∈p.map tx:=fun z hz=>by
  rcases(yr _ _ _).mp hz with e | ⟨q,hq,e⟩
  ·rw[e];exact List.mem_map_of_mem hst
  ·unfold BZ at hq
   obtain⟨r,hr',rfl⟩:=GA.mp hq
   have R:=hr r hr'
   rcases e with e | e
   ·rw[e];exact List.mem_map_of_mem R.n
   ·obtain⟨y,hy,rfl⟩:=GA.mp e
    refine List.mem_map_of_mem ?_
    obtain⟨k,v⟩:=r
    rcases mm R.good.k4 with rfl | rfl | rfl | rfl
    ·exact absurd hy List.not_mem_nil
    ·rcases(show y=v.o1\/y=v.o2 by simpa[bg]using hy) with rfl | rfl
     ·exact R.o1
     ·exact R.o2
    ·rcases(show y=v.o1\/y=v.o2 by simpa[bg]using hy) with rfl | rfl
     ·exact R.o1
     ·exact R.o2
    ·rw[show y=v.o1 by simpa[bg]using hy];exact R.o1
 have:=ThM.nd_len (o6 (tx st) _ rs rfl).nd hk
 rw[FS,FS]at this
 omega
structure DO(K:W.Frag)(C:Addr):Prop where
 cl:kA K C
 na:aE K C "signs"/\aE K C "start"/\aE K C "kept"/\aE K C "numbers"
abbrev eU:Stmt:=h7 52
def dX:Sp:=fun vs H Q _=>∃(c:Int) (b:Addr) (p:bS) (sg:List Nat),vs=[.int c,.ref b,.str (tx sg)]/\H b=some (.lst (az p))/\p.length=4/\(∀r∈p,cz r=true)/\cL sg=true /\
 ∀t r H',g_ p sg r->H' t=some (.tup (dU r))->((c%4=0->r.1=0)/\(c%4=1->r.1=3)/\(c%4≠0->c%4≠1->r.1=1\/r.1=2))->aq H H'->Q (.ref t) H'
theorem l0:aI ["_law_cell_here","_law_names_here","_law_signs_here","_law_rest","_law_head","_law_parts_here"] ["_law_cell_here","_law_names_here","_law_signs_here"] (ao eU):=by walk_at "c"
theorem l_{f:Addr}{fd:FuncData}(F:d9 K "_law_drawn_rule" "_law_drawn_rule" eU f fd)(nb:NB mg):bb P w K mg base bL 1 f fd ["_law_cell_here","_law_names_here","_law_signs_here"] dX:=by
 have sc:=l0
 walk_at "f"
 ·obtain⟨c,b,p,sg,rfl,_⟩:=h;rfl
 ·obtain⟨c,b,p,sg,rfl,hb,hp,hpn,hsg,q⟩:=h
  refine⟨_,(af (ay (i:=3) sc.nd rfl (Or.inl rfl) (am aU (pv 0) ag))
   (af (ay (i:=4) sc.nd rfl (Or.inl rfl) (aW (aa (aC bc (pv 1) (am aQ (pv 3) ag) (fun _ _=>rfl)) (aa (am bt ag (am aQ (am aU (pv 3) ag) ag)) ae))))
   (af (ay (i:=5) sc.nd rfl (Or.inl rfl) (aW (aa (aC bc (pv 1) (am aQ (am aU (pv 3) ag) ag) (fun _ _=>rfl)) (aa (aC bc (pv 1) (am aQ (am aU (pv 3) ag) ag) (fun _ _=>rfl)) ae))))
   (af (bd (aB dB (am aQ (pv 0) ag) ag (aK _))
   (ah (aL (am bP (am bP (aW (bB ae)) (pv 4)) (aW (aa (aC nj (pv 2) (am aQ (am aU (pv 3) ag) (au bo rfl nb.len aR (aa (pv 2) ae))) (fun _ _=>rfl)) ae)))))
   aM)
   (af (bd (aB dB (am aQ (pv 0) ag) ag (aK _))
   (ah (aL (am bP (am bP (aW (bB ae)) (pv 4)) (aW (aa (aC aN (pv 5) ag (fun _ _=>rfl)) (aa (am aQ (am aU (pv 3) ag) ag) ae))))))
   aM)
   (ah (aL (am bP (am bP (aW (aa (aC aN (aW (bB (bB ae))) (am aQ (pv 0) ag) (fun _ _=>rfl)) ae)) (pv 4)) (pv 5))))))))),?_⟩
  have hsl:=jI hsg
  have l9:∀x:Int,∃z∈p,hZ (az p) (x%4)=some (V.str (tx z)):=fun x=>by
   obtain⟨j,hj⟩:∃j:Nat,x%4=(j:Int):=⟨_,(GI (GG _ (by omega))).symm⟩
   have:x%4<4:=GH _ (by omega)
   exact⟨p[j]'(by omega),FZ _,by rw[hj];exact aV (bI (by omega))⟩
  have spick:∀x:Int,∃c∈sg,hZ (tx sg).cps.toList (x%(sg.length:Int))=some c:=fun x=>by
   rw[fA]
   exact AZ (GG _ (by omega)) (GH _ (by omega))
  have hsz:(tx sg).length<=sizeLine:=by rw[aA];exact ak (by omega)
  walk_at "n"
  refine h1 _ _ ?_
  walk_at "nc"
  obtain⟨z1,hz1,p1⟩:=l9 (c/4)
  refine⟨_,aT.of hb,_,p1,ak (by decide),fun th hth=>h1 _ _ ?_⟩
  clear h1
  have s1:aq H (ap H th (.tup [V.str (tx z1),V.int (1+c/4/4%9)])):=ad hth
  have e1:ap H th (.tup [V.str (tx z1),V.int (1+c/4/4%9)]) th=some (.tup [V.str (tx z1),V.int (1+c/4/4%9)]):=ac
  generalize ap H th (.tup [V.str (tx z1),V.int (1+c/4/4%9)])=H1 at s1 e1 ⊢
  walk_at "n"
  obtain⟨z2,hz2,p2⟩:=l9 (c/4/36)
  obtain⟨z3,hz3,p3⟩:=l9 (c/4/144)
  refine⟨_,aT.of (s1 _ _ hb),_,p2,_,aT.of (s1 _ _ hb),_,p3,ak (by decide),fun tp htp=>h1 _ _ ?_⟩
  clear h1
  have s2:aq H1 (ap H1 tp (.tup [V.str (tx z2),V.str (tx z3)])):=ad htp
  have e2:ap H1 tp (.tup [V.str (tx z2),V.str (tx z3)]) tp=some (.tup [V.str (tx z2),V.str (tx z3)]):=ac
  generalize ap H1 tp (.tup [V.str (tx z2),V.str (tx z3)])=H2 at s2 e2 ⊢
  have e1':=s2 _ _ e1
  have sm:=s1.trans s2
  clear s1 s2 e1
  obtain⟨ch,hch,pc⟩:=spick (c/4/36)
  have t0:0<=c/4/144%8:=GG _ (by omega)
  have t7:c/4/144%8<8:=GH _ (by omega)
  have c0:0<=c/4/4%9:=GG _ (by omega)
  have c9:c/4/4%9<9:=GH _ (by omega)
  have gd:∀k,k<4->g_ p sg (k,⟨z1,1+c/4/4%9,z2,z3,[ch],c/4/144%8⟩):=fun k hk=>by
   have g:RV.good ⟨z1,1+c/4/4%9,z2,z3,[ch],c/4/144%8⟩:=⟨hpn _ hz1,by show 1<=1+c/4/4%9;omega,by show 1+c/4/4%9<=9;omega,hpn _ hz2,hpn _ hz3,zq hsg hch,t0,by show c/4/144%8<=7;omega⟩
   exact⟨⟨hk,g,g.small⟩,hz1,hz2,hz3,ch,hch,rfl⟩
  walk_at "wp"
  by_cases k0:c%4=0
  ·rw[if_pos k0]
   refine⟨ak (by decide),fun p1 hp1=>?_⟩
   refine eu ac (ad hp1 _ _ e1') (by simp) (by simp) (by simp) fun p2 hp2=>?_
   walk_at "wp"
   refine⟨hsz,by rw[aA];omega,hsz,ch,by rw[aA];exact pc,ak (by decide),fun p3 hp3=>?_⟩
   refine eu (ad hp3 _ _ ac) ac (by simp) (by simp) (by simp) fun p4 hp4=>?_
   refine q p4 (0,⟨z1,1+c/4/4%9,z2,z3,[ch],c/4/144%8⟩) _ (gd 0 (by decide)) ac ⟨fun _=>rfl,fun h=>absurd (k0.symm.trans h) (by decide),fun h=>absurd k0 h⟩ (((sm.trans (ad hp1)).trans (ad hp2)).trans ((ad hp3).trans (ad hp4)))
  ·rw[if_neg k0]
   by_cases k1:c%4=1
   ·rw[if_pos k1]
    refine⟨ak (by decide),fun p1 hp1=>?_⟩
    refine eu ac (ad hp1 _ _ e1') (by simp) (by simp) (by simp) fun p2 hp2=>?_
    walk_at "wp"
    refine⟨_,bq.of (ad hp2 _ _ (ad hp1 _ _ e2)),_,rfl,ak (by decide),fun p3 hp3=>?_⟩
    refine eu (ad hp3 _ _ ac) ac (by simp) (by simp) (by simp) fun p4 hp4=>?_
    refine q p4 (3,⟨z1,1+c/4/4%9,z2,z3,[ch],c/4/144%8⟩) _ (gd 3 (by decide)) ac ⟨fun h=>absurd h k0,fun _=>rfl,fun _ h=>absurd k1 h⟩ (((sm.trans (ad hp1)).trans (ad hp2)).trans ((ad hp3).trans (ad hp4)))
   ·rw[if_neg k1]
    have two:c%2=0\/c%2=1:=by omega
    refine⟨ak (by decide),fun p1 hp1=>?_⟩
    rcases two with h2 | h2
    ·rw[h2]
     refine⟨_,bq.of ac,_,rfl,ak (by decide),fun p2 hp2=>?_⟩
     refine eu ac (ad hp2 _ _ (ad hp1 _ _ e1')) (by simp) (by simp) (by simp) fun p3 hp3=>?_
     refine eu ac (ad hp3 _ _ (ad hp2 _ _ (ad hp1 _ _ e2))) (by simp) (by simp) (by simp) fun p4 hp4=>?_
     exact q p4 (1,⟨z1,1+c/4/4%9,z2,z3,[ch],c/4/144%8⟩) _ (gd 1 (by decide)) ac ⟨fun h=>absurd h k0,fun h=>absurd h k1,fun _ _=>.inl rfl⟩ (((sm.trans (ad hp1)).trans (ad hp2)).trans ((ad hp3).trans (ad hp4)))
    ·rw[h2]
     refine⟨_,bq.of ac,_,rfl,ak (by decide),fun p2 hp2=>?_⟩
     refine eu ac (ad hp2 _ _ (ad hp1 _ _ e1')) (by simp) (by simp) (by simp) fun p3 hp3=>?_
     refine eu ac (ad hp3 _ _ (ad hp2 _ _ (ad hp1 _ _ e2))) (by simp) (by simp) (by simp) fun p4 hp4=>?_
     exact q p4 (2,⟨z1,1+c/4/4%9,z2,z3,[ch],c/4/144%8⟩) _ (gd 2 (by decide)) ac ⟨fun h=>absurd h k0,fun h=>absurd h k1,fun _ _=>.inr rfl⟩ (((sm.trans (ad hp1)).trans (ad hp2)).trans ((ad hp3).trans (ad hp4)))
abbrev iF:Stmt:=h7 46
def j7(K:W.Frag):Sp:=fun vs H Q _=>∃(a:Addr) (p:bS) (r c:Nat),vs=[.ref a]/\aT K H a (az p)/\jA p r c/\0<r/\r<=64/\c<=64/\j_ H (gz p) Q
theorem p_:aI ["_law_rows","_law_last"] ["_law_rows"] (ao iF):=by walk_at "c"
theorem pX{f:Addr}{fd:FuncData}(F:d9 K "_law_quarter" "_law_quarter" iF f fd)(nb:NB mg):bb P w K mg base bL 1 f fd ["_law_rows"] (j7 K):=by
 have sc:=p_
 walk_at "f"
 ·obtain⟨a,p,r,c,rfl,_⟩:=h;rfl
 ·obtain⟨a,p,r,c,rfl,hS,hp,hr0,hr1,hc1,q⟩:=h
  refine⟨_,(af (ay (i:=1) sc.nd rfl (Or.inr rfl) (am kP (au aO rfl nb.len aR (aa (pv 0) ae)) ag))
   (ah (aL (cF ["_law_i"] [0,1] rfl (bz.of (by kernel_rfl)) (by kernel_rfl) (bR rfl nb.range (aa (au bo rfl nb.len aR (aa (aC bc (pv 0) ag (fun _ _=>rfl)) ae)) ae))
    (fun _ _ _ _=>(aF (i:=0) (by show(["_law_i","_law_rows","_law_last"]:List Str).Nodup;decide +kernel) rfl (Or.inr rfl))) (fun _ _ _ _=>bU) (fun _ _ _ _=>(Bi (K:=K) rfl PySem.F.plainAttrs_str PySem.F.slot_str_join PySem.F.type_str_join (yo (K:=K) rfl) cV (aa (cF ["_law_j"] [1,2,0] rfl (bz.of (by kernel_rfl)) (by kernel_rfl) (bR rfl nb.range (aa (au (t5 (K:=K) rfl) rfl nb.len aR (aa (pv 1) ae)) ae))
    (fun _ _ _ _=>(aF (i:=0) (by show(["_law_j","_law_rows","_law_last","_law_i"]:List Str).Nodup;decide +kernel) rfl (Or.inl rfl))) (fun _ _ _ _=>bU) (fun _ _ _ _=>(aC nj (aC (mW (K:=K) rfl) (pv 1) (am kP (pv 2) (pv 0)) (fun _ _=>rfl)) (pv 3) (fun _ _=>rfl)))) ae))))))),?_⟩
  have hl0:0<p.length:=by rw[hp.1];exact hr0
  have hc0:(p[0]).length=c:=hp.2 _ (FZ hl0)
  have hpl:p.length=r:=hp.1
  walk_at "n"
  refine⟨_,hS,h1 _ _ ?_⟩
  clear h1
  rw[aJ]
  walk_at "wp"
  have h0:hZ (az p) 0=some (V.str (tx p[0])):=(show hZ _ ((0:Nat):Int)=_ from aV (bI hl0))
  refine⟨_,hS,_,h0,_,rfl,by rw[aA];exact ak (by omega),by rw[aA];omega,by rw[aA];omega,?_⟩
  rw[aA,hc0,F0]
  refine jD (lo:=0) (n:=c) (fun i acc σ H'=>aq H H'/\acc=az ((List.range i).map (col p))/\i<=c/\∃x,σ=[x,some (.ref a),some (.int ((p.length:Int)-1))]) ⟨aq.refl _,rfl,Gd _,_,rfl⟩ ?_ ?_ ?_ ?_
  ·rintro i acc σ H' ⟨_,rfl,_⟩
   rw[aJ,FS,List.length_range];exact bw (by omega)
  ·rintro i acc σ H' ⟨_,_,h,_⟩
   exact h
  ·rintro i acc σ H' hi ⟨sm,rfl,_,y,rfl⟩
   walk_at "wp"
   have hS':=sm.seq hS
   have hpl2:((az p).length:Int)=(p.length:Int):=by rw[aJ]
   refine⟨rfl,_,hS',by rw[hpl2];omega,by rw[hpl2];omega,?_⟩
   rw[hpl2,F0]
   refine fD (n:=p.length) (f:=fun j=>some (V.str ⟨#[(p.reverse.getD j []).getD i 0]⟩)) (fun σ=>∃x,σ=[x,some (.ref a),some (.int ((p.length:Int)-1)),some (.int (i:Int))]) ⟨_,rfl⟩ (by omega) ?_ ?_
   ·rintro j hj σ H2 M1 M0 ⟨y,rfl⟩ sm2 k1 k0
    walk_at "wp"
    have ej:(p.length:Int)-1-(j:Int)=((p.length-1-j:Nat):Int):=by omega
    have hx:p.length-1-j<p.length:=by omega
    have erev:p.reverse.getD j []=p[p.length-1-j]:=by rw[List.getD_eq_getElem?_getD,List.getElem?_reverse hj,FP hx];rfl
    have hrow:(p[p.length-1-j]).length=c:=hp.2 _ (FZ hx)
    refine⟨_,sm2.seq hS',V.str (tx p[p.length-1-j]),by rw[ej];exact aV (bI hx),_,rfl,by rw[aA];exact ak (by omega),(p[p.length-1-j]).getD i 0,?_,k1 _ _ _ (by rw[erev]) sm2 ⟨_,rfl⟩⟩
    refine aV ?_
    rw[fA,List.getD_eq_getElem?_getD,FP (by omega)]
    rfl
   ·intro H2 sm2 l hl
    rw[jT]
    have ec:(List.range p.length).map (fun j=>V.str ⟨#[(p.reverse.getD j []).getD i 0]⟩)=((col p i).map fun c=>(⟨#[c]⟩:Str)).map V.str:=by
     unfold col
     rw[F5,F5]
     apply List.ext_getElem?
     intro j
     rw[FU,FU]
     by_cases hj:j<p.length
     ·rw[List.getElem?_range hj,FP (by rw[F8];exact hj),Option.map_some,Option.map_some]
      show some (V.str ⟨#[(p.reverse.getD j []).getD i 0]⟩)=some (V.str ⟨#[(p.reverse[j]'(by rw[F8];exact hj)).getD i 0]⟩)
      rw[List.getD_eq_getElem?_getD (l:=p.reverse),FP (by rw[F8];exact hj),Option.getD_some]
     ·rw[List.getElem?_eq_none (by rw[List.length_range];omega),List.getElem?_eq_none (by rw[F8];omega)];rfl
    rw[ec]
    refine⟨_,.inl (aT.of ac),?_,(sm.trans sm2).trans (ad hl),?_,hi⟩
    ·rw[F5]
     have e:((fun y:Str=>y.length)∘fun c=>(⟨#[c]⟩:Str))=fun _=>1:=by funext c;rfl
     have e0:(Str.ofString "").length=0:=rfl
     rw[e,List.map_const',List.sum_replicate_nat,FS,e0]
     unfold col
     rw[FS,F8]
     omega
    ·rw[lF,List.range_succ,F3]
     exact(qi _ _).symm
  ·rintro acc σ H' ⟨sm,rfl,_⟩ l hl
   refine q l _ (sm.free hl) ?_ (sm.trans (ad hl))
   rw[ac]
   unfold gz
   rw[df hp hr0]
abbrev jL:Stmt:=h7 47
def lS(K:W.Frag):Sp:=fun vs H Q _=>∃(a:Addr) (p:bS) (r c t:Nat),vs=[.ref a,.int (t:Int)]/\H a=some (.lst (az p))/\jA p r c/\0<r/\0<c/\r<=64/\c<=64/\t<8/\∀l H',H' l=some (.lst (az (turned p t)))->aq H H'->Q (.ref l) H'
theorem rB:aI ["_law_rows","_law_t","_law_step"] ["_law_rows","_law_t"] (ao jL):=by walk_at "c"
theorem rP{f:Addr}{fd:FuncData}(F:d9 K "_law_turned" "_law_turned" jL f fd)(nb:NB mg)(zab:fP P w K mg base bL 1 "_law_quarter" ["_law_rows"] (j7 K)):bb P w K mg base bL 2 f fd ["_law_rows","_law_t"] (lS K):=by
 have sc:=rB
 walk_at "f"
 ·obtain⟨a,p,r,c,t,rfl,_⟩:=h;rfl
 ·obtain⟨a,p,r,c,t,rfl,hS,hp,hr0,hc0,hr1,hc1,ht,q⟩:=h
  refine⟨_,(af (bd (aB hJ (pv 1) ag (aK _))
   (ah (nG (i:=0) ["_law_row"] [] sc.nd rfl (Or.inl rfl) rfl  rfl (bz.of (by kernel_rfl)) (by kernel_rfl) (cC (pv 0))
    (fun _ _ _ _=>(aF (i:=0) (by show(["_law_row"]:List Str).Nodup;decide +kernel) rfl (Or.inl rfl))) (fun _ _ _ _=>bU) (fun _ _ _ _=>(za (pv 0) (rK mQ ag)))))
   aM)
   (af (bD PassesOwn.never rfl (bR rfl nb.range (aa (am aQ (pv 1) ag) ae)) (aF (i:=2) sc.nd rfl (Or.inl rfl))
   (ah (ay (i:=0) sc.nd rfl (Or.inl rfl) (aP zab (hr.mono (by decide)) rfl a_ (aa (pv 0) ae)))))
   (ah (aL (pv 0))))),?_⟩
  refine ai fun N2 h2=>?_
  have loop:∀(l2:Addr) (p':bS) (H2:Hp) (y:Option V),H2 l2=some (.lst (az p'))->aq H H2->jA p' r c->turned p t=b0 (t%4) p'->N2 [some (V.ref l2),some (V.int t),y] H2:=by
   intro l2 p' H2 y hH2 sm2 hp' et
   refine h2 _ _ ?_
   clear h2
   refine ai fun N3 h3=>?_
   walk_at "wp"
   refine⟨by omega,by omega,?_⟩
   have e4:((t:Int)%4).toNat=t%4:=by omega
   rw[e4]
   refine eY (lo:=0) (n:=t%4) (fun i σ H3=>∃(l3:Addr) (x:Option V),σ=[some (V.ref l3),some (V.int t),x]/\H3 l3=some (.lst (az (b0 i p')))/\aq H H3) ⟨l2,_,rfl,hH2,sm2⟩ ?_ ?_
   ·rintro i σ H3 hi ⟨l3,x,rfl,h4,sm3⟩
    walk_at "wp"
    have hq:=fG i hp' hr0 hc0
    have gp2:∃r' c',jA (b0 i p') r' c'/\0<r'/\r'<=64/\c'<=64:=by
     by_cases hi2:i%2=0
     ·rw[if_pos hi2,if_pos hi2]at hq;exact⟨r,c,hq,hr0,hr1,hc1⟩
     ·rw[if_neg hi2,if_neg hi2]at hq;exact⟨c,r,hq,hc0,hc1,hr1⟩
    obtain⟨r',c',g3,g4,g5,g6⟩:=gp2
    refine⟨l3,_,r',c',rfl,aT.of h4,g3,g4,g5,g6,fun l4 H4 h8 h9 sm4=>?_⟩
    exact⟨l4,rfl,by rw[<- qq 1 i p'];exact h9,sm3.trans sm4⟩
   ·rintro σ H3 ⟨l3,x,rfl,h4,sm3⟩
    refine h3 _ _ ?_
    walk_at "wp"
    exact q l3 H3 (by rw[et];exact h4) sm3
  walk_at "wp"
  have hpl:p.length=r:=hp.1
  split
  ·rename_i h4
   refine⟨⟨_,aT.of hS⟩,?_⟩
   refine jl (as:=p) (emb:=fun x=>V.str (tx x)) (f:=fun x=>some (V.str (tx x.reverse))) (fun σ=>∃x,σ=[x]) ⟨_,rfl⟩ (fun H' sm=>aT.of (sm _ _ hS)) (by omega) ?_ ?_
   ·rintro i x hx σ H' M1 M0 ⟨y,rfl⟩ sm k1 k0
    walk_at "wp"
    have hxl:x.length=c:=hp.2 x (FV hx)
    exact⟨x,rfl,by omega,k1 _ _ _ rfl sm ⟨_,rfl⟩⟩
   ·intro H' sm l hl
    rw[jT]
    have em:p.map (fun x=>V.str (tx x.reverse))=az (jC p):=by unfold az jC;rw[F5];rfl
    rw[em]
    refine loop l (jC p) _ _ ac (sm.trans (ad hl)) (lQ hp) ?_
    unfold turned
    rw[if_pos (by omega)]
  ·rename_i h4
   refine loop a p H _ hS (aq.refl _) hp ?_
   unfold turned
   rw[if_neg (by omega)]
theorem AT(r s:List Nat):tx r++tx s=tx (r++s):=by
 show(⟨_++_⟩:Str)=⟨_⟩
 simp[tx]
abbrev pM:Stmt:=h7 50
def ni:Sp:=fun vs H Q _=>∃(t lp:Addr) (r:Nat×RV) (as:List Addr) (ps:List bS),vs=[.ref t,.ref lp]/\H t=some (.tup (dU r))/\r.1<4/\0<=r.2.t/\r.2.t<=7/\Bb H lp as ps/\rL r.1 ps /\
 (∀p,je r.1 r.2 ps=some p->∀l H',H' l=some (.lst (az p))->aq H H'->Q (.ref l) H')/\(je r.1 r.2 ps=none->∀H',aq H H'->Q .non H')
theorem yb:aI ["_law_told","_law_pictures","_law_one","_law_other"] ["_law_told","_law_pictures"] (ao pM):=by walk_at "c"
theorem yn{f:Addr}{fd:FuncData}(F:d9 K "_law_put" "_law_put" pM f fd)(nb:NB mg)(zxb:fP P w K mg base bL 2 "_law_turned" ["_law_rows","_law_t"] (lS K)):bb P w K mg base bL 3 f fd ["_law_told","_law_pictures"] ni:=by
 have sc:=yb
 walk_at "f"
 ·obtain⟨t,lp,r,as,ps,rfl,_⟩:=h;rfl
 ·obtain⟨t,lp,⟨k,v⟩,as,ps,rfl,ht,hk,ht0,ht7,⟨hlp,hal,hat⟩,hfit,good,bad⟩:=h
  refine⟨_,(af (bd (aB dB (aC aN (pv 0) ag (fun _ _=>rfl)) cV (aK _))
   (ah (aL (bf (aa (aC aN (pv 0) ag (fun _ _=>rfl)) ae))))
   aM)
   (af (bd (aB dB (aC aN (pv 0) ag (fun _ _=>rfl)) cV (aK _))
   (ah (aL (aP zxb (hr.mono (by decide)) rfl a_ (aa (aC bc (pv 1) ag (fun _ _=>rfl)) (aa (aC aN (pv 0) ag (fun _ _=>rfl)) ae)))))
   aM)
   (af (ld (pv 1) (zM (n:=2) rfl (bj (aF (i:=2) sc.nd rfl (Or.inr rfl)) (bj (aF (i:=3) sc.nd rfl (Or.inr rfl)) eM))))
   (af (bd (aB dB (aC aN (pv 0) ag (fun _ _=>rfl)) cV (aK _))
   (af (bd (PW.pt (g9 (aB uO (au aO rfl nb.len aR (aa (pv 2) ae)) (au aO rfl nb.len aR (aa (pv 3) ae)) (aK _)) (fQ (aB hJ (am bt (au bo rfl nb.len aR (aa (aC bc (pv 2) ag (fun _ _=>rfl)) ae)) (au bo rfl nb.len aR (aa (aC bc (pv 3) ag (fun _ _=>rfl)) ae))) ag (aK _)))))
   (ah (aL m3))
   aM)
   (ah (aL (cF ["_law_k"] [2,3] rfl (bz.of (by kernel_rfl)) (by kernel_rfl) (bR rfl nb.range (aa (au aO rfl nb.len aR (aa (pv 2) ae)) ae))
    (fun _ _ _ _=>(aF (i:=0) (by show(["_law_k","_law_one","_law_other"]:List Str).Nodup;decide +kernel) rfl (Or.inl rfl))) (fun _ _ _ _=>bU) (fun _ _ _ _=>(am jt (aC (mW (K:=K) rfl) (pv 1) (pv 0) (fun _ _=>rfl)) (aC (mW (K:=K) rfl) (pv 2) (pv 0) (fun _ _=>rfl))))))))
   aM)
   (af (bd (PW.pt (g9 (aB uO (au bo rfl nb.len aR (aa (aC bc (pv 2) ag (fun _ _=>rfl)) ae)) (au bo rfl nb.len aR (aa (aC bc (pv 3) ag (fun _ _=>rfl)) ae)) (aK _)) (fQ (aB hJ (am bt (au aO rfl nb.len aR (aa (pv 2) ae)) (au aO rfl nb.len aR (aa (pv 3) ae))) ag (aK _)))))
   (ah (aL m3))
   aM)
   (ah (aL (am tO (pv 2) (pv 3))))))))),?_⟩
  have sq:=bq.of (K:=K) ht
  have hfit:rL k ps:=hfit
  have ht0:0<=v.t:=ht0
  have ht7:v.t<=7:=ht7
  walk_at "wp"
  cases hfit with
  |cell=>
   change bq K H t [.str (Str.ofString "cell"),.str (tx v.n),.int v.c,.str (tx v.sg)]at sq
   refine⟨_,sq,_,rfl,rfl,?_⟩
   rw[if_pos rfl]
   exact⟨_,sq,_,rfl,ak (by decide),fun p hp=>good [v.sg] rfl p _ (by rw[ac];rfl) (ad hp)⟩
  | @turn p r c hp=>
   obtain⟨a1,rfl⟩:∃a1,as=[a1]:=by match as,hal with | [a1],_=>exact⟨a1,rfl⟩
   have e1:H a1=some (.lst (az p)):=hat 0 (by simp) (by simp)
   change bq K H t [.str (Str.ofString "turned"),.str (tx v.n),.int v.c,.str (tx v.o1),.int v.t]at sq
   refine⟨_,sq,_,rfl,rfl,?_⟩
   rw[if_neg DT]
   refine⟨_,sq,_,rfl,rfl,?_⟩
   rw[if_pos rfl]
   have h0:hZ ([V.ref a1]:List V) 0=some (V.ref a1):=rfl
   obtain⟨tn,htn⟩:∃tn:Nat,v.t=(tn:Int):=⟨v.t.toNat,by omega⟩
   refine⟨_,aT.of hlp,_,h0,_,sq,_,rfl,?_⟩
   have hpl:=hp.r0
   refine⟨a1,p,r,c,tn,by rw[htn],e1,hp.rc,hp.r0,hp.c0,by have:=hp.r6;omega,by have:=hp.c6;omega,by omega,fun l H' hl sm=>good _ ?_ l H' hl sm⟩
   show some (turned p v.t.toNat)=some (turned p tn)
   rw[htn];rfl
  | @beside p q' r c r' c' hp hq=>
   obtain⟨a1,a2,rfl⟩:∃a1 a2,as=[a1,a2]:=by match as,hal with | [a1,a2],_=>exact⟨a1,a2,rfl⟩
   have e1:H a1=some (.lst (az p)):=hat 0 (by simp) (by simp)
   have e2:H a2=some (.lst (az q')):=hat 1 (by simp) (by simp)
   change bq K H t [.str (Str.ofString "beside"),.str (tx v.n),.int v.c,.str (tx v.o1),.str (tx v.o2)]at sq
   refine⟨_,sq,_,rfl,rfl,?_⟩
   rw[if_neg DP]
   refine⟨_,sq,_,rfl,rfl,?_⟩
   rw[if_neg E8]
   refine⟨_,aT.of hlp,rfl,_,_,rfl,_,_,rfl,rfl,_,sq,_,rfl,rfl,?_⟩
   rw[if_pos rfl]
   have hl1:p.length=r:=hp.rc.1
   have hl2:q'.length=r':=hq.rc.1
   have hh1:=df hp.rc hp.r0
   have hh2:=df hq.rc hq.r0
   have h1:((az p).length:Int)=(r:Int):=by rw[aJ,hl1]
   have h2:((az q').length:Int)=(r':Int):=by rw[aJ,hl2]
   have p0:0<p.length:=by rw[hl1];exact hp.r0
   have q0:0<q'.length:=by rw[hl2];exact hq.r0
   have c1:(p[0]).length=c:=hp.rc.2 _ (FZ p0)
   have c2:(q'[0]).length=c':=hq.rc.2 _ (FZ q0)
   have b1:=hp.r6;have b2:=hp.c6;have b3:=hq.r6;have b4:=hq.c6
   refine⟨a1,rfl,_,aT.of e1,a2,rfl,_,aT.of e2,?_⟩
   rw[h1,h2]
   by_cases er:r=r'
   ·rw[if_neg (by omega)]
    have z1:hZ (az p) 0=some (V.str (tx p[0])):=(show hZ _ ((0:Nat):Int)=_ from aV (bI p0))
    have z2:hZ (az q') 0=some (V.str (tx q'[0])):=(show hZ _ ((0:Nat):Int)=_ from aV (bI q0))
    refine⟨a1,rfl,_,aT.of e1,_,z1,_,rfl,by rw[aA];exact ak (by omega),a2,rfl,_,aT.of e2,_,z2,_,rfl,by rw[aA];exact ak (by omega),?_⟩
    rw[aA,aA,c1,c2]
    have mk:(p.length=q'.length/\(p.headD []).length+(q'.headD []).length<=6)↔c+c'<=6:=by rw[hl1,hl2,hh1,hh2];exact⟨fun h=>h.2,fun h=>⟨er,h⟩⟩
    by_cases ec:6<(c:Int)+(c':Int)
    ·rw[if_pos ec]
     refine bad ?_ H (aq.refl _)
     show(if _ then _ else _)=_
     rw[if_neg (fun h=>by have:=mk.mp h;omega)]
    ·rw[if_neg ec]
     refine⟨a1,rfl,_,aT.of e1,by rw[h1];omega,by rw[h1];omega,?_⟩
     rw[h1,F0]
     refine fD (n:=r) (f:=fun k=>some (V.str (tx (p.getD k []++q'.getD k [])))) (fun σ=>∃x,σ=[x,some (.ref a1),some (.ref a2)]) ⟨_,rfl⟩ (by omega) ?_ ?_
     ·rintro k hk σ H2 M1 M0 ⟨y,rfl⟩ sm k1 k0
      walk_at "wp"
      have kp:k<p.length:=by omega
      have kq:k<q'.length:=by omega
      have g1:p.getD k []=p[k]:=by rw[List.getD_eq_getElem?_getD,FP kp];rfl
      have g2:q'.getD k []=q'[k]:=by rw[List.getD_eq_getElem?_getD,FP kq];rfl
      have w1:(p[k]).length=c:=hp.rc.2 _ (FZ kp)
      have w2:(q'[k]).length=c':=hq.rc.2 _ (FZ kq)
      refine⟨_,aT.of (sm _ _ e1),_,aV (bI kp),_,aT.of (sm _ _ e2),_,aV (bI kq),_,rfl,_,rfl,by rw[aA,aA];exact ak (by omega),?_⟩
      rw[AT]
      exact k1 _ _ _ (by rw[g1,g2]) sm ⟨_,rfl⟩
     ·intro H2 sm l hl
      rw[jT]
      refine good (wq p q') ?_ l _ ?_ (sm.trans (ad hl))
      ·show(if _ then _ else _)=_
       rw[if_pos (mk.mpr (by omega))]
      ·rw[ac]
       congr 2
       unfold wq az
       rw[F5]
       apply List.ext_getElem?
       intro k
       rw[FU,FU]
       by_cases hk:k<r
       ·have kp:k<p.length:=by omega
        have kq:k<q'.length:=by omega
        rw[List.getElem?_range hk,(show(p.zip q')[k]?=some (p[k],q'[k]) from List.getElem?_zip_eq_some.mpr ⟨FP kp,FP kq⟩),Option.map_some,Option.map_some,List.getD_eq_getElem?_getD,List.getD_eq_getElem?_getD,FP kp,FP kq]
        rfl
       ·rw[List.getElem?_eq_none (by rw[List.length_range];omega),List.getElem?_eq_none (by rw[List.length_zip];omega)];rfl
   ·rw[if_pos (by omega)]
    refine bad ?_ H (aq.refl _)
    show(if _ then _ else _)=_
    rw[if_neg (fun h=>er (by rw[<- hl1,<- hl2];exact h.1))]
  | @above p q' r c r' c' hp hq=>
   obtain⟨a1,a2,rfl⟩:∃a1 a2,as=[a1,a2]:=by match as,hal with | [a1,a2],_=>exact⟨a1,a2,rfl⟩
   have e1:H a1=some (.lst (az p)):=hat 0 (by simp) (by simp)
   have e2:H a2=some (.lst (az q')):=hat 1 (by simp) (by simp)
   change bq K H t [.str (Str.ofString "above"),.str (tx v.n),.int v.c,.str (tx v.o1),.str (tx v.o2)]at sq
   refine⟨_,sq,_,rfl,rfl,?_⟩
   rw[if_neg DY]
   refine⟨_,sq,_,rfl,rfl,?_⟩
   rw[if_neg EE]
   refine⟨_,aT.of hlp,rfl,_,_,rfl,_,_,rfl,rfl,_,sq,_,rfl,rfl,?_⟩
   rw[if_neg DW]
   have hl1:p.length=r:=hp.rc.1
   have hl2:q'.length=r':=hq.rc.1
   have hh1:=df hp.rc hp.r0
   have hh2:=df hq.rc hq.r0
   have h1:((az p).length:Int)=(r:Int):=by rw[aJ,hl1]
   have h2:((az q').length:Int)=(r':Int):=by rw[aJ,hl2]
   have p0:0<p.length:=by rw[hl1];exact hp.r0
   have q0:0<q'.length:=by rw[hl2];exact hq.r0
   have c1:(p[0]).length=c:=hp.rc.2 _ (FZ p0)
   have c2:(q'[0]).length=c':=hq.rc.2 _ (FZ q0)
   have b1:=hp.r6;have b2:=hp.c6;have b3:=hq.r6;have b4:=hq.c6
   have z1:hZ (az p) 0=some (V.str (tx p[0])):=(show hZ _ ((0:Nat):Int)=_ from aV (bI p0))
   have z2:hZ (az q') 0=some (V.str (tx q'[0])):=(show hZ _ ((0:Nat):Int)=_ from aV (bI q0))
   have mk:((p.headD []).length=(q'.headD []).length/\p.length+q'.length<=6)↔c=c'/\r+r'<=6:=by rw[hl1,hl2,hh1,hh2]
   refine⟨a1,rfl,_,aT.of e1,_,z1,_,rfl,by rw[aA];exact ak (by omega),a2,rfl,_,aT.of e2,_,z2,_,rfl,by rw[aA];exact ak (by omega),?_⟩
   rw[aA,aA,c1,c2]
   by_cases ec:c=c'
   ·rw[if_neg (by omega)]
    refine⟨a1,rfl,_,aT.of e1,a2,rfl,_,aT.of e2,?_⟩
    rw[h1,h2]
    by_cases er:6<(r:Int)+(r':Int)
    ·rw[if_pos er]
     refine bad ?_ H (aq.refl _)
     show(if _ then _ else _)=_
     rw[if_neg (fun h=>by have:=mk.mp h;omega)]
    ·rw[if_neg er]
     refine⟨a1,rfl,a2,rfl,_,e1,_,e2,by rw[aJ,aJ];exact ak (by omega),fun l hl=>good (p++q') ?_ l _ ?_ (ad hl)⟩
     ·show(if _ then _ else _)=_
      rw[if_pos (mk.mpr ⟨ec,by omega⟩)]
     ·rw[ac];unfold az;rw[F3]
   ·rw[if_pos (by omega)]
    refine bad ?_ H (aq.refl _)
    show(if _ then _ else _)=_
    rw[if_neg (fun h=>ec (mk.mp h).1)]
inductive Gr(rs:List (Nat×RV)):Dt->List Nat->bS->Int->Nat->Prop
 |cell {n:Nat} {v:RV}:rs[n]?=some (0,v)->Gr rs (.tup [.int (n:Int)]) v.n [v.sg] v.c 1
 |turn {n:Nat} {v:RV} {d:Dt} {p:bS} {c:Int} {k:Nat}:rs[n]?=some (3,v)->Gr rs d v.o1 p c k->Gr rs (.tup [.int (n:Int),d]) v.n (turned p v.t.toNat) (v.c+c) (k+1)
 |pair {n kd:Nat} {v:RV} {d1 d2:Dt} {p1 p2 p:bS} {c1 c2:Int} {k1 k2:Nat}:(kd=1\/kd=2)->rs[n]?=some (kd,v)->Gr rs d1 v.o1 p1 c1 k1->Gr rs d2 v.o2 p2 c2 k2->je kd v [p1,p2]=some p->Gr rs (.tup [.int (n:Int),d1,d2]) v.n p (v.c+(c1+c2)) (max k1 k2+1)
theorem Gr.more{rs:List (Nat×RV)}(r:Nat×RV){d:Dt}{nm:List Nat}{p:bS}{c:Int}{k:Nat}(g:Gr rs d nm p c k):Gr (rs++[r]) d nm p c k:=by
 have up:∀{n:Nat} {x:Nat×RV},rs[n]?=some x->(rs++[r])[n]?=some x:=fun{n x} e=>by rw[Ga (FQ.mp e).1];exact e
 induction g with
 |cell e=>exact .cell (up e)
 |turn e _ ih=>exact .turn (up e) ih
 |pair h e _ _ m ih1 ih2=>exact .pair h (up e) ih1 ih2 m
theorem mJ{k:Nat}{v:RV}{p1 p2 p:bS}{r c r' c':Nat}(hk:k=1\/k=2)(h1:i7 p1 r c)(h2:i7 p2 r' c')(m:je k v [p1,p2]=some p):∃r c,i7 p r c:=by
 have e1:=df h1.rc h1.r0
 have e2:=df h2.rc h2.r0
 have l1:=h1.rc.1
 have l2:=h2.rc.1
 rcases hk with rfl | rfl
 ·have m':(if p1.length=p2.length/\(p1.headD []).length+(p2.headD []).length<=6 then some (wq p1 p2) else none)=some p:=m
  by_cases c0:p1.length=p2.length/\(p1.headD []).length+(p2.headD []).length<=6
  ·rw[if_pos c0]at m'
   cases m'
   rw[l1,l2,e1,e2]at c0
   refine⟨r,c+c',⟨?_,h1.r0,h1.r6,by have:=h1.c0;omega,c0.2⟩⟩
   refine⟨by unfold wq;rw[FS,List.length_zip,l1,l2];omega,fun x hx=>?_⟩
   unfold wq at hx
   obtain⟨y,hy,rfl⟩:=GA.mp hx
   have:=List.of_mem_zip hy
   rw[Gb,h1.rc.2 _ this.1,h2.rc.2 _ this.2]
  ·rw[if_neg c0]at m';cases m'
 ·have m':(if(p1.headD []).length=(p2.headD []).length/\p1.length+p2.length<=6 then some (p1++p2) else none)=some p:=m
  by_cases c0:(p1.headD []).length=(p2.headD []).length/\p1.length+p2.length<=6
  ·rw[if_pos c0]at m'
   cases m'
   rw[l1,l2,e1,e2]at c0
   refine⟨r+r',c,⟨⟨by rw[Gb,l1,l2],fun x hx=>?_⟩,by have:=h1.r0;omega,c0.2,h1.c0,h1.c6⟩⟩
   rcases F4.mp hx with h | h
   ·exact h1.rc.2 _ h
   ·rw[c0.1];exact h2.rc.2 _ h
  ·rw[if_neg c0]at m';cases m'
theorem oI{p:bS}{r c:Nat}(h:i7 p r c)(t:Nat):∃r c,i7 (turned p t) r c:=by
 have hm:jA (if 4<=t then jC p else p) r c:=by split;exact lQ h.rc;exact h.rc
 have:=fG (t%4) hm h.r0 h.c0
 unfold turned
 by_cases e:t%4%2=0
 ·rw[if_pos e,if_pos e]at this;exact⟨r,c,this,h.r0,h.r6,h.c0,h.c6⟩
 ·rw[if_neg e,if_neg e]at this;exact⟨c,r,this,h.c0,h.c6,h.r0,h.r6⟩
theorem Gr.pic6{rs:List (Nat×RV)}(hg:∀r∈rs,so r){d:Dt}{nm:List Nat}{p:bS}{c:Int}{k:Nat}(g:Gr rs d nm p c k):∃r c,i7 p r c:=by
 induction g with
 | @cell n v e=>
  have:=iL (hg _ (FV e)).good.sg
  exact⟨1,1,⟨rfl,fun x hx=>by rw[FT.mp hx];exact this⟩,by decide,by decide,by decide,by decide⟩
 |turn e _ ih=>obtain⟨r,c,h⟩:=ih;exact oI h _
 |pair h e _ _ m ih1 ih2=>obtain⟨r,c,h1⟩:=ih1;obtain⟨r',c',h2⟩:=ih2;exact mJ h h1 h2 m
structure SI where
 d:Dt
 nm:List Nat
 p:bS
 c:Int
 m:Int
 k:Nat
def fH(H:Hp)(a:Addr)(x:SI):Prop:=∃vt lp,H a=some (.tup [vt,.str (tx x.nm),.ref lp,.int x.c,.int x.m,.int (x.k:Int)])/\aZ H x.d vt/\H lp=some (.lst (az x.p))/\x.p≠[]
theorem fH.up{H H':Hp}{a:Addr}{x:SI}(h:fH H a x)(s:aq H H'):fH H' a x:=by
 obtain⟨vt,lp,h1,h2,h3,h4⟩:=h
 exact⟨vt,lp,s _ _ h1,h2.up (bp.of s) _,s _ _ h3,h4⟩
theorem tE{H:Hp}{l lp:Addr}{as:List Addr}{p:bS}(h1:H l=some (.lst (as.map V.ref)))(h2:H lp=some (.lst (az p)))(h3:p≠[]):lp≠l:=fun e=>by
 rw[e,h1]at h2
 have h4:=HO.lst.inj (Option.some.inj h2)
 cases p with
 |nil=>exact h3 rfl
 |cons r p=>
  cases as with
  |nil=>exact nomatch h4
  |cons a as=>have:=(List.cons.inj h4).1;cases this
theorem fH.put{H:Hp}{l a:Addr}{as:List Addr}{o:HO}{x:SI}(h:fH H a x)(hl:H l=some (.lst (as.map V.ref))):fH (ap H l o) a x:=by
 obtain⟨vt,lp,h1,h2,h3,h4⟩:=h
 refine⟨vt,lp,?_,h2.up (bp.put hl) _,?_,h4⟩
 ·rw[aj (fun e=>by rw[e,hl]at h1;cases h1)];exact h1
 ·rw[aj (tE hl h3 h4)];exact h3
def bu(H:Hp)(as:List Addr)(xs:List SI):Prop:=as.length=xs.length/\∀(i:Nat) a x,as[i]?=some a->xs[i]?=some x->fH H a x
theorem bu.up{H H':Hp}{as:List Addr}{xs:List SI}(h:bu H as xs)(s:aq H H'):bu H' as xs:=⟨h.1,fun i a x e1 e2=>(h.2 i a x e1 e2).up s⟩
theorem bu.got{H:Hp}{as:List Addr}{xs:List SI}(h:bu H as xs){i:Nat}(hi:i<xs.length):∃a x,as[i]?=some a/\xs[i]?=some x/\fH H a x:=by
 have h1:i<as.length:=by rw[h.1];exact hi
 exact⟨as[i],xs[i],FP h1,FP hi,h.2 i _ _ (FP h1) (FP hi)⟩
def tw(r:Nat×RV)(ys:List SI):Prop:=(r.1=0/\ys=[])\/(r.1=3/\∃x,ys=[x]/\r.2.o1=x.nm)\/((r.1=1\/r.1=2)/\∃x y,ys=[x,y]/\r.2.o1=x.nm/\r.2.o2=y.nm/\je r.1 r.2 [x.p,y.p]≠none)
theorem yW{H:Hp}{a b:Addr}{xs:List V}{Q:VK}{neg:Bool}(ha:H a=some (.lst xs))(hb:H b=some (.lst []))(q:Q (.bl (xs.isEmpty != neg)) H):y0 K neg (.ref a) (.ref b) H Q:=by
 cases xs with
 |nil=>
  refine .inl ⟨[],by unfold Dt.deps;omega,.inl ⟨?_,?_⟩,by simpa using q⟩
  ·unfold gD;exact⟨a,_,rfl,aT.of ha,by unfold cT;rfl⟩
  ·unfold gD;exact⟨b,_,rfl,aT.of hb,by unfold cT;rfl⟩
 |cons x xs=>exact .inr ⟨a,b,_,_,rfl,rfl,aT.of ha,aT.of hb,by simp,by simpa using q⟩
theorem A2{α:Type}{xs:List α}{j:Nat}{v:α}(h:j<xs.length)(e:xs[xs.length-1-j]?=some v):hZ xs (-1-(j:Int))=some v:=by
 unfold hZ zd
 rw[if_neg (by omega),if_pos (by omega),Option.bind_some,show(-1-(j:Int)+(xs.length:Int)).toNat=xs.length-1-j by omega]
 exact e
def uP(k:Nat):Str:=if k=1 then "beside" else "above"
theorem d_{H H':Hp}{a:Addr}(s:aq H H')(h:H' a=none):H a=none:=by
 cases e:H a with
 |none=>rfl
 |some o=>rw[s _ _ e]at h;cases h
abbrev nL:Stmt:=h7 53
def oW:Sp:=fun vs H Q _=>∃(ls b:Addr) (c:Int) (as:List Addr) (xs:List SI) (p:bS) (sg:List Nat),vs=[.ref ls,.int c,.ref b,.str (tx sg)]/\H ls=some (.lst (as.map V.ref))/\bu H as xs/\H b=some (.lst (az p))/\p.length=4/\(∀r∈p,cz r=true)/\cL sg=true/\(∀x∈xs,x.nm∈p/\∃r c,i7 x.p r c)/\xs.length<=1000 /\
 ∀tp t lb r bs ys H',H' tp=some (.tup [.ref t,.ref lb])->H' t=some (.tup (dU r))->g_ p sg r->H' lb=some (.lst (bs.map V.ref))->bu H' bs ys->(∀y∈ys,y∈xs)->tw r ys->H lb=none->aq H H'->Q (.ref tp) H'
theorem wk:aI ["_law_stock","_law_cell_here","_law_names_here","_law_signs_here","_law_told","_law_rest","_law_one","_law_other","_law_words","_law_word","_law_rule"] ["_law_stock","_law_cell_here","_law_names_here","_law_signs_here"] (ao nL):=by walk_at "c"
theorem vD{f:Addr}{fd:FuncData}(F:d9 K "_law_next" "_law_next" nL f fd)(nb:NB mg)(zta:fP P w K mg base bL 1 "_law_drawn_rule" ["_law_cell_here","_law_names_here","_law_signs_here"] dX)(zQa:fP P w K mg base bL 3 "_law_put" ["_law_told","_law_pictures"] ni):bb P w K mg base bL 4 f fd ["_law_stock","_law_cell_here","_law_names_here","_law_signs_here"] oW:=by
 have sc:=wk
 walk_at "f"
 ·obtain⟨ls,b,c,as,xs,p,sg,rfl,_⟩:=h;rfl
 ·obtain⟨ls,b,c,as,xs,p,sg,rfl,hls,hst,hb,hp,hpn,hsg,hxs,hxl,q⟩:=h
  have hu:=hr.units
  refine⟨_,(af (ay (i:=4) sc.nd rfl (Or.inl rfl) (aP zta (hr.mono (by decide)) rfl a_ (aa (am dD (am aU (pv 1) ag) ag) (aa (pv 2) (aa (pv 3) ae)))))
   (af (bd (PW.pt (g9 (aB (xl hu) (pv 0) (bf ae) (aK _)) (fQ (aB nM (am aQ (pv 1) ag) ag (aK _)))))
   (ah (aL (aW (aa (pv 4) (aa (bf ae) ae)))))
   aM)
   (af (ay (i:=5) sc.nd rfl (Or.inl rfl) (am aU (pv 1) ag))
   (af (ay (i:=6) sc.nd rfl (Or.inl rfl) (aC bc (pv 0) (am aQ (pv 5) (au aO rfl nb.len aR (aa (pv 0) ae))) (fun _ _=>rfl)))
   (af (ay (i:=7) sc.nd rfl (Or.inl rfl) (aC bc (pv 0) (am kP (rK mQ ag) (am aQ (am aU (pv 5) ag) (au aO rfl nb.len aR (aa (pv 0) ae)))) (fun _ _=>rfl)))
   (vO (bd (aB nM (am aQ (pv 1) ag) ag (aK _))
   (ah (aL (aW (aa (aW (bB (aa (aC aN (pv 4) ag (fun _ _=>rfl)) (aa (aC aN (pv 4) ag (fun _ _=>rfl)) (aa (aC aN (pv 6) ag (fun _ _=>rfl)) (aa (am aQ (am aU (pv 5) ag) ag) ae)))))) (aa (bf (aa (pv 6) ae)) ae)))))
   aM)
   (y9 (AJ (i:=8) sc.nd rfl (Or.inl rfl) (As (BT (yv (zO (zO tJ))) (BT (yv (zO (zO tJ))) tJ))) (am aQ (am aU (pv 5) ag) ag) (fun _ _=>rfl))
   (af (bD PassesOwn.never rfl (ul (pv 8)) (aF (i:=9) sc.nd rfl (Or.inl rfl))
   (af (ay (i:=10) sc.nd rfl (Or.inl rfl) (aW (aa (pv 9) (aa (aC aN (pv 4) ag (fun _ _=>rfl)) (aa (aC aN (pv 4) ag (fun _ _=>rfl)) (aa (aC aN (pv 6) ag (fun _ _=>rfl)) (aa (aC aN (pv 7) ag (fun _ _=>rfl)) ae)))))))
   (ah (bd (aB uM (aP zQa (hr.mono (by decide)) rfl a_ (aa (pv 10) (aa (bf (aa (aC aN (pv 6) ag (fun _ _=>rfl)) (aa (aC aN (pv 7) ag (fun _ _=>rfl)) ae))) ae))) m3 (aK _))
   (ah (aL (aW (aa (pv 10) (aa (bf (aa (pv 6) (aa (pv 7) ae))) ae)))))
   aM))))
   (ah (aL (aW (aa (pv 4) (aa (bf ae) ae))))))))))))),?_⟩
  walk_at "n"
  refine⟨_,b,p,sg,rfl,hb,hp,hpn,hsg,fun t r H1 hro ht hkind s1=>h1 _ _ ?_⟩
  clear h1
  have hk0:r.1=0:=hkind.1 (by omega)
  obtain⟨rk,v⟩:=r
  cases hk0
  have sqt:bq K H1 t [.str (Str.ofString "cell"),.str (tx v.n),.int v.c,.str (tx v.sg)]:=bq.of ht
  have hls1:=s1 _ _ hls
  have hst1:=hst.up s1
  have cellQ:∀H2,aq H1 H2->∀lb,H2 lb=none->∀tp,ap H2 lb (.lst []) tp=none->Q (.ref tp) (ap (ap H2 lb (.lst [])) tp (.tup [.ref t,.ref lb])):=fun H2 s2 lb hlb tp htp=>
   q tp t lb (0,v) [] [] _ ac (ad htp _ _ (ad hlb _ _ (s2 _ _ ht))) hro (ad htp _ _ ac) ⟨rfl,fun i a x e=>by simp at e⟩ (fun y hy=>nomatch hy) (.inl ⟨rfl,rfl⟩) (d_ (s1.trans s2) hlb) ((s1.trans s2).trans ((ad hlb).trans (ad htp)))
  walk_at "n"
  refine⟨Gd _,fun pe hpe=>?_⟩
  refine yW (ad hpe _ _ hls1) ac ?_
  have s2:aq H1 (ap H1 pe (.lst [])):=ad hpe
  generalize ap H1 pe (.lst [])=H2 at s2 ⊢
  refine⟨_,rfl,?_⟩
  by_cases hx0:xs=[]
  ·have ha0:as=[]:=Gz.mp (by rw[hst.1,hx0];rfl)
   rw[if_pos (by rw[ha0];rfl)]
   exact⟨Gd _,fun lb hlb=>⟨ak (by decide),fun tp htp=>cellQ H2 s2 lb hlb tp htp⟩⟩
  have hpos:0<xs.length:=List.length_pos_iff.mpr hx0
  have hal:=hst.1
  rw[if_neg (by cases as with | nil=>rw[<- hal]at hpos;exact absurd hpos (by decide) | cons a as=>simp)]
  by_cases h82:c%8<2
  ·rw[if_pos h82]
   exact⟨Gd _,fun lb hlb=>⟨ak (by decide),fun tp htp=>cellQ H2 s2 lb hlb tp htp⟩⟩
  rw[if_neg h82]
  refine h1 _ _ ?_
  clear h1
  have ls2:=s2 _ _ hls1
  have st2:=hst1.up s2
  have s02:=s1.trans s2
  have sq2:bq K H2 t [.str (Str.ofString "cell"),.str (tx v.n),.int v.c,.str (tx v.sg)]:=s2.sqT sqt
  walk_at "n"
  refine h1 _ _ ?_
  clear h1
  generalize c/8=bh
  have hlen:((as.map V.ref).length:Int)=(xs.length:Int):=by rw[FS,hal]
  walk_at "n"
  obtain⟨i,hi⟩:∃i:Nat,bh%(xs.length:Int)=(i:Int):=⟨_,(GI (GG _ (by omega))).symm⟩
  have hi2:i<xs.length:=by have:=GH bh (b:=(xs.length:Int)) (by omega);omega
  obtain⟨a1,x,ea1,ex,ia1⟩:=st2.got hi2
  refine⟨_,aT.of ls2,by rw[hlen];omega,_,aT.of ls2,V.ref a1,by rw[hlen,hi];exact aV (by rw[FU,ea1];rfl),h1 _ _ ?_⟩
  walk_at "nc"
  obtain⟨j,hj⟩:∃j:Nat,bh/5%(xs.length:Int)=(j:Int):=⟨_,(GI (GG _ (by omega))).symm⟩
  have hj2:j<xs.length:=by have:=GH (bh/5) (b:=(xs.length:Int)) (by omega);omega
  have hj3:xs.length-1-j<xs.length:=by omega
  obtain⟨a2,y,ea2,ey,ia2⟩:=st2.got hj3
  refine⟨_,aT.of ls2,by rw[hlen];omega,_,aT.of ls2,V.ref a2,by rw[hlen,hj];exact A2 (by rw[FS,hal];exact hj2) (by rw[FU,FS,hal,ea2];rfl),h1 _ _ ?_⟩
  clear h1
  have xm:x∈xs:=FV ex
  have ym:y∈xs:=FV ey
  obtain⟨xp,rx,cx,x6⟩:=hxs x xm
  obtain⟨yp,ry,cy,y6⟩:=hxs y ym
  have rv:∀(k:Nat) (o1 o2:List Nat) (tt:Int),k<4->o1∈p->o2∈p->0<=tt->tt<=7->g_ p sg (k,{v with o1:=o1,o2:=o2,t:=tt}):=fun k o1 o2 tt hk h1 h2 h3 h4=>by
   have g:=hro.good.good
   have g':RV.good {v with o1:=o1,o2:=o2,t:=tt}:=⟨g.n,g.c1,g.c9,hpn _ h1,hpn _ h2,g.sg,h3,h4⟩
   exact⟨⟨hk,g',g'.small⟩,hro.n,h1,h2,hro.sg⟩
  obtain⟨vt1,lp1,ta1,tr1,pp1,pn1⟩:=id ia1
  obtain⟨vt2,lp2,ta2,tr2,pp2,pn2⟩:=id ia2
  have q1:bq K H2 a1 [vt1,.str (tx x.nm),.ref lp1,.int x.c,.int x.m,.int (x.k:Int)]:=bq.of ta1
  have q2:bq K H2 a2 [vt2,.str (tx y.nm),.ref lp2,.int y.c,.int y.m,.int (y.k:Int)]:=bq.of ta2
  walk_at "n"
  by_cases h84:c%8<4
  ·rw[if_pos h84]
   have t0:0<=bh/7%8:=GG _ (by omega)
   have t7:bh/7%8<8:=GH _ (by omega)
   refine⟨_,sq2,_,rfl,_,sq2,_,rfl,_,q1,_,rfl,ak (by decide),fun t3 ht3=>⟨ak (by decide),fun lb hlb=>⟨ak (by decide),fun tp htp=>?_⟩⟩⟩
   have sA:=(ad (o:=.tup [V.str (Str.ofString "turned"),V.str (tx v.n),V.int v.c,V.str (tx x.nm),V.int (bh/7%8)]) ht3).trans ((ad (o:=.lst [V.ref a1]) hlb).trans (ad (o:=.tup [V.ref t3,V.ref lb]) htp))
   refine q tp t3 lb (3,{v with o1:=x.nm,o2:=v.o2,t:=bh/7%8}) [a1] [x] _ ac (ad htp _ _ (ad hlb _ _ ac)) (rv 3 x.nm v.o2 _ (by decide) xp hro.o2 t0 (by omega)) (ad htp _ _ ac) ⟨rfl,fun i a z e1 e2=>?_⟩ (fun z hz=>by rw[FT.mp hz];exact xm) (.inr (.inl ⟨rfl,x,rfl,rfl⟩)) (d_ (s02.trans (ad ht3)) hlb) (s02.trans sA)
   match i,e1,e2 with
   |0,e1,e2=>cases e1;cases e2;exact ia1.up sA
   |i+1,e1,e2=>simp at e1
  ·rw[if_neg h84]
   refine h1 _ _ ?_
   walk_at "nc"
   refine⟨ak (by decide),fun w1 hw1=>⟨ak (by decide),fun w2 hw2=>⟨ak (by decide),fun w3 hw3=>?_⟩⟩⟩
   have sA:=(ad (o:=.tup [V.str (Str.ofString "beside"),V.str (Str.ofString "above")]) hw1).trans ((ad (o:=.tup [V.str (Str.ofString "above"),V.str (Str.ofString "beside")]) hw2).trans (ad (o:=.lst [V.ref w1,V.ref w2]) hw3))
   have f1:ap (ap (ap H2 w1 (.tup [V.str (Str.ofString "beside"),V.str (Str.ofString "above")])) w2 (.tup [V.str (Str.ofString "above"),V.str (Str.ofString "beside")])) w3 (.lst [V.ref w1,V.ref w2]) w1=some (.tup [V.str (Str.ofString "beside"),V.str (Str.ofString "above")]):=ad hw3 _ _ (ad hw2 _ _ ac)
   have f2:ap (ap (ap H2 w1 (.tup [V.str (Str.ofString "beside"),V.str (Str.ofString "above")])) w2 (.tup [V.str (Str.ofString "above"),V.str (Str.ofString "beside")])) w3 (.lst [V.ref w1,V.ref w2]) w2=some (.tup [V.str (Str.ofString "above"),V.str (Str.ofString "beside")]):=ad hw3 _ _ ac
   have f3:ap (ap (ap H2 w1 (.tup [V.str (Str.ofString "beside"),V.str (Str.ofString "above")])) w2 (.tup [V.str (Str.ofString "above"),V.str (Str.ofString "beside")])) w3 (.lst [V.ref w1,V.ref w2]) w3=some (.lst [V.ref w1,V.ref w2]):=ac
   generalize ap (ap (ap H2 w1 (.tup [V.str (Str.ofString "beside"),V.str (Str.ofString "above")])) w2 (.tup [V.str (Str.ofString "above"),V.str (Str.ofString "beside")])) w3 (.lst [V.ref w1,V.ref w2])=H3 at sA f1 f2 f3 ⊢
   obtain⟨wx,ww,fw,aw,kw⟩:∃(wx:Addr) (ww:List V),H3 wx=some (.tup ww)/\hZ ([V.ref w1,V.ref w2]:List V) (bh/11%2)=some (V.ref wx)/\∀(i:Nat) z,ww[i]?=some z->∃kd,(kd=1\/kd=2)/\z=V.str (uP kd):=by
    have two:bh/11%2=0\/bh/11%2=1:=by omega
    rcases two with e | e
    ·refine⟨w1,_,f1,by rw[e];rfl,fun i z hz=>?_⟩
     match i,hz with
     |0,hz=>cases hz;exact⟨1,.inl rfl,rfl⟩
     |1,hz=>cases hz;exact⟨2,.inr rfl,rfl⟩
     |i+2,hz=>simp at hz
    ·refine⟨w2,_,f2,by rw[e];rfl,fun i z hz=>?_⟩
     match i,hz with
     |0,hz=>cases hz;exact⟨2,.inr rfl,rfl⟩
     |1,hz=>cases hz;exact⟨1,.inl rfl,rfl⟩
     |i+2,hz=>simp at hz
   refine⟨_,aT.of f3,_,aw,h1 _ _ ?_⟩
   walk_at "nc"
   refine⟨⟨_,bq.of fw⟩,?_⟩
   refine mw (xs:=ww) (fun i σ H'=>aq H2 H'/\H' wx=some (.tup ww)/\∃z1 z2,σ=[some (V.ref ls),some (V.int c),some (V.ref b),some (V.str (tx sg)),some (V.ref t),some (V.int bh),some (V.ref a1),some (V.ref a2),some (V.ref wx),z1,z2]) ⟨sA,fw,_,_,rfl⟩ ?_ ?_ ?_
   ·rintro i σ H' _ ⟨_,h,_⟩
    exact bq.of h
   ·rintro i z σ H' hz ⟨sm,hwx,z1,z2,rfl⟩
    obtain⟨kd,hkd,rfl⟩:=kw i z hz
    walk_at "wp"
    have st':=(s02.trans sm)
    have q1':bq K H' a1 _:=sm.sqT q1
    have q2':bq K H' a2 _:=sm.sqT q2
    refine⟨_,sm.sqT sq2,_,rfl,_,sm.sqT sq2,_,rfl,_,q1',_,rfl,_,q2',_,rfl,ak (by decide),fun rp hrp=>?_⟩
    have sR:=ad (o:=.tup [V.str (uP kd),V.str (tx v.n),V.int v.c,V.str (tx x.nm),V.str (tx y.nm)]) hrp
    have hR:ap H' rp (.tup [V.str (uP kd),V.str (tx v.n),V.int v.c,V.str (tx x.nm),V.str (tx y.nm)]) rp=some (.tup (dU (kd,{v with o1:=x.nm,o2:=y.nm,t:=0}))):=by
     rw[ac]
     rcases hkd with rfl | rfl<;>rfl
    generalize ap H' rp (.tup [V.str (uP kd),V.str (tx v.n),V.int v.c,V.str (tx x.nm),V.str (tx y.nm)])=H4 at sR hR ⊢
    have sm4:=sm.trans sR
    refine⟨_,sR.sqT q1',_,rfl,_,sR.sqT q2',_,rfl,ak (by decide),fun pl hpl=>?_⟩
    have sP:=ad (o:=.lst [V.ref lp1,V.ref lp2]) hpl
    have hP:ap H4 pl (.lst [V.ref lp1,V.ref lp2]) pl=some (.lst (([lp1,lp2]:List Addr).map V.ref)):=ac
    generalize ap H4 pl (.lst [V.ref lp1,V.ref lp2])=H5 at sP hP ⊢
    have sm5:=sm4.trans sP
    have kl:kd<4:=by rcases hkd with rfl | rfl<;>decide
    refine⟨rp,pl,(kd,{v with o1:=x.nm,o2:=y.nm,t:=0}),[lp1,lp2],[x.p,y.p],rfl,sP _ _ hR,kl,by show(0:Int)<=0;decide,by show(0:Int)<=7;decide,⟨hP,rfl,fun i h1 h2=>?_⟩,?_,fun pc hpc l H6 hl s6=>?_,fun _ H6 s6=>?_⟩
    ·match i,h1,h2 with
     |0,_,_=>exact sm5 _ _ pp1
     |1,_,_=>exact sm5 _ _ pp2
     |i+2,h1,_=>simp at h1;omega
    ·rcases hkd with rfl | rfl
     ·exact .beside x6 y6
     ·exact .above x6 y6
    ·dsimp only
     rw[if_pos (fun e:V.ref l=V.non=>by cases e)]
     refine⟨ak (by decide),fun lb hlb=>⟨ak (by decide),fun tp htp=>?_⟩⟩
     have sm6:=sm5.trans s6
     have sB:=(ad (o:=.lst [V.ref a1,V.ref a2]) hlb).trans (ad (o:=.tup [V.ref rp,V.ref lb]) htp)
     refine q tp rp lb (kd,{v with o1:=x.nm,o2:=y.nm,t:=0}) [a1,a2] [x,y] _ ac (sB _ _ (s6 _ _ (sP _ _ hR))) (rv kd x.nm y.nm 0 kl xp yp (by decide) (by decide)) (ad htp _ _ ac) ⟨rfl,fun i a z e1 e2=>?_⟩ (fun z hz=>?_) (.inr (.inr ⟨hkd,x,y,rfl,rfl,rfl,?_⟩)) (d_ (s02.trans sm6) hlb) ((s02.trans sm6).trans sB)
     ·match i,e1,e2 with
      |0,e1,e2=>cases e1;cases e2;exact ia1.up (sm6.trans sB)
      |1,e1,e2=>cases e1;cases e2;exact ia2.up (sm6.trans sB)
      |i+2,e1,e2=>simp at e1
     ·rcases F6.mp hz with rfl | hz
      ·exact xm
      ·rw[FT.mp hz];exact ym
     ·rw[hpc];exact fun e=>nomatch e
    ·dsimp only
     rw[if_neg (fun e:¬ V.non=V.non=>e rfl)]
     exact⟨sm5.trans s6,s6 _ _ (sP _ _ (sR _ _ hwx))⟩
   ·rintro σ H' ⟨sm,hwx,z1,z2,rfl⟩
    refine h1 _ _ ?_
    walk_at "wp"
    exact⟨Gd _,fun lb hlb=>⟨ak (by decide),fun tp htp=>cellQ H' (s2.trans sm) lb hlb tp htp⟩⟩
structure nK(r' r:Nat×RV):Prop where
 k:r'.1=r.1
 sg:r.1=0->r'.2.sg=r.2.sg
 o1:r.1≠0->r'.2.o1=r.2.o1
 o2:r.1=1\/r.1=2->r'.2.o2=r.2.o2
 t:r.1=3->r'.2.t=r.2.t
theorem nK.rfl'(r:Nat×RV):nK r r:=⟨rfl,fun _=>rfl,fun _=>rfl,fun _=>rfl,fun _=>rfl⟩
theorem iP{a b:List Nat}(h:tx a=tx b):a=b:=by
 have:=congrArg (fun s:Str=>s.cps.toList) h
 simpa[tx]using this
def zJ(k:Nat):Str:=match k with | 0=>"cell" | 1=>"beside" | 2=>"above" | _=>"turned"
theorem wN(r:Nat×RV):hZ (dU r) 0=some (.str (zJ r.1)):=by
 obtain⟨k,v⟩:=r
 match k with
 |0=>rfl
 |1=>rfl
 |2=>rfl
 |k+3=>rfl
theorem yU{a b:Nat}(ha:a<4)(hb:b<4)(h:zJ a=zJ b):a=b:=by
 have:∀a:Fin 4,∀b:Fin 4,zJ a.1=zJ b.1->a=b:=by decide +kernel
 exact congrArg Fin.val (this ⟨a,ha⟩ ⟨b,hb⟩ h)
theorem oX(r:Nat×RV):(dz (dU r) (some 3) none).all oK=true:=by
 obtain⟨k,v⟩:=r
 match k with
 |0=>rfl
 |1=>rfl
 |2=>rfl
 |k+3=>rfl
theorem q8(r:Nat×RV):¬ (HT.sIx (dU r).length 0 (some 3)=0/\HT.sIx (dU r).length (dU r).length none=(dU r).length):=by
 obtain⟨k,v⟩:=r
 match k with
 |0=>exact fun h=>by cases h.1
 |1=>exact fun h=>by cases h.1
 |2=>exact fun h=>by cases h.1
 |k+3=>exact fun h=>by cases h.1
theorem iX{a b:Str}(h:sH (.str a) (.str b)=true):a=b:=by
 have h':(a==b)=true:=h
 exact eq_of_beq h'
theorem zm{a b:Int}(h:sH (.int a) (.int b)=true):a=b:=by
 have h':(a==b)=true:=h
 exact eq_of_beq h'
theorem mZ{x y x' y':V}(h:qN [x,y] [x',y']=true):sH x x'=true/\sH y y'=true:=by
 have h':(([0,1]:List Nat).all (fun j=>match([x,y]:List V)[j]?,([x',y']:List V)[j]? with | some x,some y=>sH x y | _,_=>true)&&true)=true:=h
 simpa using h'
theorem wY{x x':V}(h:qN [x] [x']=true):sH x x'=true:=by
 have h':(([0]:List Nat).all (fun j=>match([x]:List V)[j]?,([x']:List V)[j]? with | some x,some y=>sH x y | _,_=>true)&&true)=true:=h
 simpa using h'
theorem xc{r' r:Nat×RV}(h4':r'.1<4)(h4:r.1<4)(hk:V.str (zJ r'.1)=V.str (zJ r.1))(he:qN (dz (dU r') (some 3) none) (dz (dU r) (some 3) none)=true):nK r' r:=by
 have e:=yU h4' h4 (V.str.inj hk)
 obtain⟨k',v'⟩:=r'
 obtain⟨k,v⟩:=r
 have e:k'=k:=e
 subst e
 have h4:k'<4:=h4
 match k',h4 with
 |0,_=>
  have:=iP (iX (wY (show qN [.str (tx v'.sg)] [.str (tx v.sg)]=true from he)))
  exact⟨rfl,fun _=>this,fun h=>absurd rfl h,fun h=>(by rcases h with h | h<;>cases h),fun h=>(by cases h)⟩
 |1,_=>
  have:=mZ (show qN [.str (tx v'.o1),.str (tx v'.o2)] [.str (tx v.o1),.str (tx v.o2)]=true from he)
  exact⟨rfl,fun h=>(by cases h),fun _=>iP (iX this.1),fun _=>iP (iX this.2),fun h=>(by cases h)⟩
 |2,_=>
  have:=mZ (show qN [.str (tx v'.o1),.str (tx v'.o2)] [.str (tx v.o1),.str (tx v.o2)]=true from he)
  exact⟨rfl,fun h=>(by cases h),fun _=>iP (iX this.1),fun _=>iP (iX this.2),fun h=>(by cases h)⟩
 |3,_=>
  have:=mZ (show qN [.str (tx v'.o1),.int v'.t] [.str (tx v.o1),.int v.t]=true from he)
  exact⟨rfl,fun h=>(by cases h),fun _=>iP (iX this.1),fun h=>(by rcases h with h | h<;>cases h),fun _=>zm this.2⟩
abbrev jy:Stmt:=h7 54
def iI:Sp:=fun vs H Q _=>∃(l t:Addr) (b:Bool) (ts:List Addr) (rs:List (Nat×RV)) (r:Nat×RV),vs=[.ref l,.ref t,.bl b]/\b9 H l ts rs/\(∀x∈rs,x.1<4)/\H t=some (.tup (dU r))/\r.1<4/\rs.length<=24 /\
 (∀(k:Nat) r' H',rs[k]?=some r'->nK r' r->aq H H'->Q (.int (k:Int)) H')/\(rs.length=24->∀H',aq H H'->Q .non H') /\
 (rs.length<24->∀H0,aq H H0->Q (.int (rs.length:Int)) (ap H0 l (.lst (ts.map V.ref++[V.ref t]))))
theorem re:aI ["_law_rules","_law_told","_law_again","_law_k","_law_rule"] ["_law_rules","_law_told","_law_again"] (ao jy):=by walk_at "c"
theorem rY{f:Addr}{fd:FuncData}(F:d9 K "_law_number" "_law_number" jy f fd)(nb:NB mg):bb P w K mg base bL 1 f fd ["_law_rules","_law_told","_law_again"] iI:=by
 have sc:=re
 walk_at "f"
 ·obtain⟨l,t,b,ts,rs,r,rfl,_⟩:=h;rfl
 ·obtain⟨l,t,b,ts,rs,r,rfl,hrs,hk4,ht,hr4,hl24,q1,q2,q3⟩:=h
  have hu:=hr.units
  refine⟨_,(af (bD PassesOwn.never rfl (mj rfl nb.enumerate (aa (pv 0) ae)) (im (n:=2) rfl (bj (aF (i:=3) sc.nd rfl (Or.inl rfl)) (bj (aF (i:=4) sc.nd rfl (Or.inl rfl)) eM)))
   (ah (bd (PW.pt (m_ (iq (pv 2) fun _=>rfl) (m_ (aB dB (aC aN (pv 4) ag (fun _ _=>rfl)) (aC aN (pv 1) ag (fun _ _=>rfl)) (aK _)) (qa (aB (x8 hu) (bH kE (pv 4) (bT ag) bV) (bH kE (pv 1) (bT ag) bV) (aK _))))))
   (ah (aL (pv 3)))
   aM)))
   (af (bd (aB dB (au aO rfl nb.len aR (aa (pv 0) ae)) ag (aK _))
   (ah (aL m3))
   aM)
   (af (bE (dm PySem.F.plainAttrs_list PySem.F.slot_list_append PySem.F.type_list_append b7 (pv 0) (aa (pv 1) ae)))
   (ah (aL (am kP (au aO rfl nb.len aR (aa (pv 0) ae)) ag)))))),?_⟩
  walk_at "n"
  refine⟨_,aT.of hrs.1,?_⟩
  refine iM (xs:=ts.map V.ref) (fun i σ H'=>aq H H'/\∃z1 z2,σ=[some (V.ref l),some (V.ref t),some (V.bl b),z1,z2]) ⟨fun _ _ e=>e,_,_,rfl⟩ ?_ ?_ ?_
  ·rintro i σ H' _ ⟨sm,_⟩
   exact aT.of (sm _ _ hrs.1)
  ·rintro i x σ H' T hx ⟨sm,z1,z2,rfl⟩ hT
   rw[FU]at hx
   obtain⟨ti,hti,rfl⟩:=Gh.mp hx
   obtain⟨r',hr'⟩:∃r',rs[i]?=some r':=⟨_,FP (by have:=(FQ.mp hti).1;have:=hrs.2.1;omega)⟩
   have hri:=sm _ _ (hrs.2.2 i ti r' hti hr')
   have sT:=ad (o:=.tup [V.int (i:Int),V.ref ti]) hT
   have hTT:ap H' T (.tup [V.int (i:Int),V.ref ti]) T=some (.tup [V.int (i:Int),V.ref ti]):=ac
   generalize ap H' T (.tup [V.int (i:Int),V.ref ti])=H1 at sT hTT ⊢
   walk_at "wp"
   have sm1:=sm.trans sT
   refine⟨_,bq.of hTT,rfl,_,_,rfl,_,_,rfl,rfl,?_⟩
   cases b with
   |false=>rw[if_neg (by decide)];exact sm1
   |true=>
    rw[if_pos rfl]
    refine⟨ti,rfl,_,bq.of (sT _ _ hri),_,wN r',_,bq.of (sm1 _ _ ht),_,wN r,rfl,?_⟩
    by_cases hkk:V.str (zJ r'.1)=V.str (zJ r.1)
    ·rw[if_pos hkk]
     refine⟨ti,rfl,_,bq.of (sT _ _ hri),q8 r',fun c1 hc1=>?_⟩
     have sC:=ad (o:=.tup (dz (dU r') (some 3) none)) hc1
     refine⟨_,bq.of (sC _ _ (sm1 _ _ ht)),q8 r,fun c2 hc2=>?_⟩
     have sD:=ad (o:=.tup (dz (dU r) (some 3) none)) hc2
     refine⟨_,bq.of (sD _ _ ac),_,bq.of ac,oX r',oX r,?_⟩
     have sE:=(sm1.trans sC).trans sD
     by_cases he:qN (dz (dU r') (some 3) none) (dz (dU r) (some 3) none)=true
     ·rw[if_pos he]
      exact q1 i r' _ hr' (xc (hk4 _ (FV hr')) hr4 hkk he) sE
     ·rw[if_neg he];exact sE
    ·rw[if_neg hkk];exact sm1
  ·rintro σ H' ⟨sm,z1,z2,rfl⟩
   refine h1 _ _ ?_
   walk_at "wp"
   have hl':=sm _ _ hrs.1
   have hln:(ts.map V.ref).length=rs.length:=by rw[FS];exact hrs.2.1
   refine⟨_,aT.of hl',?_⟩
   rw[hln]
   by_cases h24:(rs.length:Int)=24
   ·rw[if_pos h24];exact q2 (by omega) _ sm
   ·rw[if_neg h24]
    refine⟨.inl ⟨rfl,_,aT.of hl'⟩,_,hl',?_,_,aT.of ac,?_⟩
    ·rw[hln];exact bw (by omega)
    ·have:=q3 (by omega) H' sm
     rw[Gb,hln]
     rw[show(((rs.length+[V.ref t].length:Nat):Int)-1)=(rs.length:Int) by simp]
     exact this
theorem dc{H:Hp}{a b:Addr}{xs ys:List V}{Q:VK}(ha:H a=some (.tup xs))(hb:H b=some (.tup ys))(hx:xs≠[])(hz:xs.length+ys.length<=1000)(q:∀p H',H' p=some (.tup (xs++ys))->aq H H'->Q (.ref p) H'):yz K (.ref a) (.ref b) H Q:=
 ⟨a,b,xs,ys,rfl,rfl,bq.of ha,bq.of hb,hx,ak (by omega),fun e=>q a H (by rw[e,Gq];exact ha) (aq.refl _),fun _ p hp=>q p _ ac (ad hp)⟩
mutual
def lH:Dt->Nat
 | .tup ds=>jc ds
 |_=>1
def jc:List Dt->Nat
 | []=>0
 |d::ds=>lH d+jc ds
end
theorem wC(ys:List SI)(h:∀y∈ys,y.m=(lH y.d:Int)):((jc (ys.map SI.d):Nat):Int)=(ys.map SI.m).sum:=by
 induction ys with
 |nil=>unfold jc;rfl
 |cons y ys ih=>
  rw[Gk,Gk,List.sum_cons]
  unfold jc
  rw[Int.natCast_add,ih (fun z hz=>h z (by simp[hz])),h y (by simp)]
structure j1(rs:List (Nat×RV))(p:bS)(x:SI):Prop where
 gr:Gr rs x.d x.nm x.p x.c x.k
 nm:x.nm∈p
 k1:x.k<=18
 m1:x.m=(lH x.d:Int)
 m2:x.m<=60
theorem j1.more{rs:List (Nat×RV)}{p:bS}{x:SI}(r:Nat×RV)(h:j1 rs p x):j1 (rs++[r]) p x:=⟨h.gr.more r,h.nm,h.k1,h.m1,h.m2⟩
structure FI where
 a:Addr
 vt:V
 lp:Addr
 x:SI
def FI.vals(z:FI):List V:=[z.vt,.str (tx z.x.nm),.ref z.lp,.int z.x.c,.int z.x.m,.int (z.x.k:Int)]
def FI.at(H:Hp)(z:FI):Prop:=H z.a=some (.tup z.vals)/\aZ H z.x.d z.vt/\H z.lp=some (.lst (az z.x.p))/\z.x.p≠[]
theorem FI.at.up{H H':Hp}{z:FI}(h:z.at H)(s:aq H H'):z.at H':=⟨s _ _ h.1,h.2.1.up (bp.of s) _,s _ _ h.2.2.1,h.2.2.2⟩
theorem bu.full{H:Hp}:∀{as:List Addr} {xs:List SI},bu H as xs->∃fs:List FI,as=fs.map FI.a/\xs=fs.map FI.x/\∀z∈fs,z.at H
 | [],[],_=>⟨[],rfl,rfl,fun _ h=>nomatch h⟩
 | [],x::xs,h=>absurd h.1 (by simp)
 |a::as,[],h=>absurd h.1 (by simp)
 |a::as,x::xs,h=>by
  obtain⟨fs,e1,e2,hf⟩:=bu.full (as:=as) (xs:=xs) ⟨by simpa using h.1,fun i a x e1 e2=>h.2 (i+1) a x (by simpa using e1) (by simpa using e2)⟩
  obtain⟨vt,lp,h1,h2,h3,h4⟩:=h.2 0 a x rfl rfl
  refine⟨⟨a,vt,lp,x⟩::fs,by rw[e1];rfl,by rw[e2];rfl,fun z hz=>?_⟩
  rcases F6.mp hz with rfl | hz
  ·exact⟨h1,h2,h3,h4⟩
  ·exact hf z hz
theorem eZ{H:Hp}{lb:Addr}{fs:List FI}{j:Int}{f:FI->V}{σ:St}{Q:List V->Hp->Prop}(h0:∃z,σ=[z])(hl:H lb=some (.lst ((fs.map FI.a).map V.ref)))(hf:∀z∈fs,z.at H)(hn:fs.length<=1000)(hj:∀z:FI,hZ z.vals j=some (f z))(q:∀H',aq H H'->Q (fs.map f) H') :
  jd (yG K lb) (bZ 0) uz (AR (wj K) (b5 0) (tC (V.int j))) σ H Q:=by
 refine jl (as:=fs) (emb:=fun z=>V.ref z.a) (f:=fun z=>some (f z)) (fun σ=>∃z,σ=[z]) h0 (fun H' s=>?_) (by omega) ?_ ?_
 ·have:=s _ _ hl
  rw[F5]at this
  exact aT.of this
 ·rintro i z hz σ H' N1 N0 ⟨z0,rfl⟩ s k1 _
  walk_at "wp"
  exact⟨_,bq.of (s _ _ (hf z (FV hz)).1),_,hj z,k1 _ _ _ rfl s ⟨_,rfl⟩⟩
 ·intro H' s
  rw[qM fs (fun z=>some (f z)) (g:=f) (fun _ _=>rfl)]
  exact q H' s
theorem FI.at.put{H:Hp}{l:Addr}{as:List Addr}{o:HO}{z:FI}(h:z.at H)(hl:H l=some (.lst (as.map V.ref))):z.at (ap H l o):=by
 obtain⟨h1,h2,h3,h4⟩:=h
 refine⟨?_,h2.up (bp.put hl) _,?_,h4⟩
 ·rw[aj (fun e=>by rw[e,hl]at h1;cases h1)];exact h1
 ·rw[aj (tE hl h3 h4)];exact h3
theorem vW{r:Nat×RV}{ys:List SI}(h:tw r ys)(h6:∀y∈ys,∃r c,i7 y.p r c):rL r.1 (ys.map SI.p)/\je r.1 r.2 (ys.map SI.p)≠none:=by
 obtain⟨k,v⟩:=r
 rcases h with⟨e,rfl⟩ | ⟨e,x,rfl,_⟩ | ⟨e,x,y,rfl,_,_,hm⟩
 ·have e:k=0:=e
  subst e
  exact⟨.cell,fun h=>nomatch h⟩
 ·have e:k=3:=e
  subst e
  obtain⟨r,c,h⟩:=h6 x (by simp)
  exact⟨.turn h,fun h=>nomatch h⟩
 ·obtain⟨r,c,h⟩:=h6 x (by simp)
  obtain⟨r',c',h'⟩:=h6 y (by simp)
  have e:k=1\/k=2:=e
  rcases e with rfl | rfl
  ·exact⟨.beside h h',hm⟩
  ·exact⟨.above h h',hm⟩
theorem y8{rs:List (Nat×RV)}{r r':Nat×RV}{n:Nat}{ys:List SI}{M:Int}{pc:bS}(hn:rs[n]?=some r')(ar:nK r' r)(nx:tw r ys)(gr:∀y∈ys,Gr rs y.d y.nm y.p y.c y.k)(mp:je r.1 r.2 (ys.map SI.p)=some pc)
  (hM:(ys.map (fun y=>(y.k:Int))=[]/\M=0)\/(M∈ys.map (fun y=>(y.k:Int))/\∀a∈ys.map (fun y=>(y.k:Int)),a<=M)):Gr rs (.tup (.int (n:Int)::ys.map SI.d)) r'.2.n pc (r'.2.c+(ys.map SI.c).sum) (M.toNat+1)/\0<=M:=by
 obtain⟨k',v'⟩:=r'
 obtain⟨k,v⟩:=r
 have ek:k'=k:=ar.k
 subst ek
 rcases nx with⟨e,rfl⟩ | ⟨e,x,rfl,ho⟩ | ⟨e,x,y,rfl,ho1,ho2,_⟩
 ·have e:k'=0:=e
  subst e
  rcases hM with⟨_,rfl⟩ | ⟨h,_⟩
  ·refine⟨?_,by decide⟩
   have e2:v'.sg=v.sg:=ar.sg rfl
   have e3:some [v.sg]=some pc:=mp
   cases e3
   rw[<- e2]
   show Gr rs (.tup [.int (n:Int)]) v'.n [v'.sg] (v'.c+0) 1
   rw[Int.add_zero]
   exact .cell hn
  ·exact nomatch h
 ·have e:k'=3:=e
  subst e
  rcases hM with⟨h,_⟩ | ⟨h,_⟩
  ·exact nomatch h
  ·have h:M=(x.k:Int):=FT.mp h
   subst h
   refine⟨?_,by omega⟩
   have e2:v'.o1=v.o1:=ar.o1 (fun e:3=0=>by cases e)
   have e4:v'.t=v.t:=ar.t rfl
   have e3:some (turned x.p v.t.toNat)=some pc:=mp
   cases e3
   rw[<- e4]
   show Gr rs (.tup [.int (n:Int),x.d]) v'.n (turned x.p v'.t.toNat) (v'.c+(x.c+0)) (((x.k:Int)).toNat+1)
   rw[Int.add_zero,F0]
   have g:=gr x (by simp)
   rw[show x.nm=v'.o1 from(e2.trans ho).symm]at g
   exact .turn hn g
 ·have e:k'=1\/k'=2:=e
  have g1:=gr x (by simp)
  have g2:=gr y (by simp)
  have e1:v'.o1=v.o1:=ar.o1 (fun e':k'=0=>by omega)
  have e2:v'.o2=v.o2:=ar.o2 e
  rw[show x.nm=v'.o1 from(e1.trans ho1).symm]at g1
  rw[show y.nm=v'.o2 from(e2.trans ho2).symm]at g2
  have mp':je k' v' [x.p,y.p]=some pc:=by rcases e with rfl | rfl<;>exact mp
  rcases hM with⟨h,_⟩ | ⟨h,hm⟩
  ·exact nomatch h
  ·have h1:=hm (x.k:Int) (by simp)
   have h2:=hm (y.k:Int) (by simp)
   have h3:M=(x.k:Int)\/M=(y.k:Int):=by simpa using h
   have h4:M.toNat=max x.k y.k:=by omega
   refine⟨?_,by omega⟩
   rw[h4]
   show Gr rs (.tup [.int (n:Int),x.d,y.d]) v'.n pc (v'.c+(x.c+(y.c+0))) (max x.k y.k+1)
   rw[Int.add_zero]
   exact .pair e hn g1 g2 mp'
theorem rO{H:Hp}:∀{fs:List FI},(∀z∈fs,z.at H)->aD H ((fs.map FI.x).map SI.d) (fs.map FI.vt)
 | [],_=>aD.nil
 |z::fs,h=>aD.cons (h z (by simp)).2.1 (rO fun y hy=>h y (by simp[hy]))
theorem wz{k:Nat}{v:RV}{ps:List bS}{pc:bS}(h:rL k ps)(m:je k v ps=some pc)(g:gZ v.sg=true):∃r c,i7 pc r c:=by
 cases h with
 |cell=>
  cases(show some [v.sg]=some pc from m)
  have:=iL g
  exact⟨1,1,⟨rfl,fun x hx=>by rw[FT.mp hx];exact this⟩,by decide,by decide,by decide,by decide⟩
 |beside h1 h2=>exact mJ (.inl rfl) h1 h2 m
 |above h1 h2=>exact mJ (.inr rfl) h1 h2 m
 | @turn p _ _ h=>cases(show some (turned p v.t.toNat)=some pc from m);exact oI h _
theorem cU{c:Prop}[Decidable c]{A B:Prop}(hA:c->A)(hB:¬ c->B):if c then A else B:=by
 by_cases h:c
 ·rw[if_pos h];exact hA h
 ·rw[if_neg h];exact hB h
def Kp(H:Hp)(lr:Addr)(H':Hp):Prop:=∃H0,aq H H0/\(H'=H0\/∃o,H'=ap H0 lr o)
theorem Kp.ne{H H':Hp}{lr a:Addr}{o:HO}(k:Kp H lr H')(h:H a=some o)(e:a≠lr):H' a=some o:=by
 obtain⟨H0,s,rfl | ⟨o',rfl⟩⟩:=k
 ·exact s _ _ h
 ·rw[aj e];exact s _ _ h
theorem Kp.fi{H H':Hp}{lr:Addr}{as:List Addr}{z:FI}(k:Kp H lr H')(hl:H lr=some (.lst (as.map V.ref)))(h:z.at H):z.at H':=by
 obtain⟨H0,s,rfl | ⟨o',rfl⟩⟩:=k
 ·exact h.up s
 ·exact(h.up s).put (s _ _ hl)
theorem Kp.st{H H':Hp}{lr:Addr}{as:List Addr}{bs:List Addr}{xs:List SI}(k:Kp H lr H')(hl:H lr=some (.lst (as.map V.ref)))(h:bu H bs xs):bu H' bs xs:=by
 obtain⟨H0,s,rfl | ⟨o',rfl⟩⟩:=k
 ·exact h.up s
 ·exact⟨h.1,fun i a x e1 e2=>((h.2 i a x e1 e2).up s).put (s _ _ hl)⟩
theorem Kp.same{G H H':Hp}{lr:Addr}(k:Kp H lr H')(s0:aq G H)(n:G lr=none):aq G H':=by
 obtain⟨H0,s,rfl | ⟨o',rfl⟩⟩:=k
 ·exact s0.trans s
 ·exact aX (s0.trans s) n
theorem tD{c:TT}{t u:TS}{D:ip}{σ:St}{H:Hp}(h:∀t' u',t'=t->u'=u->zI c t' u' D σ H):zI c t u D σ H:=h t u rfl rfl
structure Bz(p:bS)(sg:List Nat)(lr:Addr)(r r':Nat×RV)(n:Nat)(rs:List (Nat×RV))(ts':List Addr)(rs':List (Nat×RV))(H8 H9:Hp):Prop where
 rows:b9 H9 lr ts' rs'
 at':rs'[n]?=some r'
 as':nK r' r
 ro:∀r∈rs',g_ p sg r
 len:rs'.length<=24
 le1:rs'.length<=rs.length+1
 up:∀{d nm p c k},Gr rs d nm p c k->Gr rs' d nm p c k
 kp:Kp H8 lr H9
theorem vy{p:bS}{sg:List Nat}{H8:Hp}{lr t:Addr}{b:Bool}{ts:List Addr}{rs:List (Nat×RV)}{r:Nat×RV}{Q:VK}{E:XK}(R:b9 H8 lr ts rs)(hro:∀r∈rs,g_ p sg r)(ht:H8 t=some (.tup (dU r)))(hr:g_ p sg r)(h24:rs.length<=24)
  (q1:∀(n:Nat) r' ts' rs' H9,Bz p sg lr r r' n rs ts' rs' H8 H9->Q (.int (n:Int)) H9) (q2:rs.length=24->∀H9,aq H8 H9->Q .non H9):iI [.ref lr,.ref t,.bl b] H8 Q E:=by
 refine⟨lr,t,b,ts,rs,r,rfl,R,fun x hx=>(hro x hx).good.k4,ht,hr.good.k4,h24,fun k r' H' hk har s=>q1 k r' ts rs H' ⟨R.up s,hk,har,hro,h24,by omega,fun h=>h,H',s,.inl rfl⟩,q2,fun hlt H0 s=>q1 rs.length r (ts++[t]) (rs++[r]) _ ⟨(R.up s).app (s _ _ ht),by simp,nK.rfl' r,fun x hx=>?_,by simp;omega,by simp,fun h=>h.more r,H0,s,.inr ⟨_,rfl⟩⟩⟩
 rcases F4.mp hx with h | h
 ·exact hro x h
 ·rw[FT.mp h];exact hr
theorem A8(r:Nat×RV):hZ (dU r) 2=some (.int r.2.c):=by
 obtain⟨k,v⟩:=r
 match k with
 |0=>rfl
 |1=>rfl
 |2=>rfl
 |k+3=>rfl
theorem A5(r:Nat×RV):hZ (dU r) 1=some (.str (tx r.2.n)):=by
 obtain⟨k,v⟩:=r
 match k with
 |0=>rfl
 |1=>rfl
 |2=>rfl
 |k+3=>rfl
theorem b9.keep{H:Hp}{l m:Addr}{ts:List Addr}{rs:List (Nat×RV)}{us:List V}{o:HO}(h:b9 H l ts rs)(hm:H m=some (.lst us))(e:l≠m):b9 (ap H m o) l ts rs:=by
 obtain⟨h1,h2,h3⟩:=h
 refine⟨by rw[aj e];exact h1,h2,fun i t r e1 e2=>?_⟩
 have h4:=h3 i t r e1 e2
 rw[aj (fun e=>by rw[e,hm]at h4;cases h4)]
 exact h4
theorem bu.add{H:Hp}{l np:Addr}{as:List Addr}{xs:List SI}{x:SI}{o:HO}{bs:List Addr}(h:bu H as xs)(hx:fH H np x)(hl:H l=some (.lst (bs.map V.ref))):bu (ap H l o) (as++[np]) (xs++[x]):=by
 refine⟨by simp[h.1],fun i a y e1 e2=>?_⟩
 by_cases hi:i<as.length
 ·rw[Ga hi]at e1
  rw[Ga (by rw[<- h.1];exact hi)]at e2
  exact(h.2 i a y e1 e2).put hl
 ·rw[F' (by omega)]at e1
  rw[F' (by rw[<- h.1];omega),<- h.1]at e2
  cases hj:i-as.length with
  |zero=>rw[hj]at e1 e2;cases e1;cases e2;exact hx.put hl
  |succ j=>rw[hj]at e1;simp at e1
def B9(H:Hp)(p:bS)(sg:List Nat)(lr ls:Addr)(n i:Nat)(H':Hp):Prop:=aq H H'/\(∃ts rs,b9 H' lr ts rs/\(∀r∈rs,g_ p sg r)/\rs.length<=24/\∃as xs,H' ls=some (.lst (as.map V.ref))/\bu H' as xs/\(∀x∈xs,j1 rs p x)/\(1<=i->xs≠[])/\(i=0->rs=[])/\xs.length<=i/\rs.length<=i)/\i<=n
abbrev le:Stmt:=h7 55
def nr:Sp:=fun vs H Q _=>∃(lc b:Addr) (cells:List Int) (p:bS) (sg:List Nat) (most:Int),vs=[.ref lc,.ref b,.str (tx sg),.int most]/\H lc=some (.lst (cells.map V.int))/\1<=cells.length/\cells.length<=100/\1<=most/\H b=some (.lst (az p))/\p.length=4/\(∀r∈p,cz r=true)/\cL sg=true /\
 ∀tp lr ls ts rs as xs H',H' tp=some (.tup [.ref lr,.ref ls])->b9 H' lr ts rs->(∀r∈rs,g_ p sg r)->rs.length<=24->rs.length<=cells.length->H' ls=some (.lst (as.map V.ref))->bu H' as xs->(∀x∈xs,j1 rs p x)->xs≠[]->xs.length<=100->lr≠ls->H lr=none->H ls=none->aq H H'->Q (.ref tp) H'
theorem tH:aI ["_law_cells","_law_names_here","_law_signs_here","_law_most","_law_rules","_law_stock","_law_cell_here","_law_told","_law_below","_law_picture","_law_many","_law_deep","_law_number_here","_law_tree","_law_cost"] ["_law_cells","_law_names_here","_law_signs_here","_law_most"] (ao le):=by walk_at "c"
theorem tf{f:Addr}{fd:FuncData}(F:d9 K "_law_grown" "_law_grown" le f fd)(nb:NB mg)(nbsum:mg "sum"=none)(zLc:fP P w K mg base bL 4 "_law_next" ["_law_stock","_law_cell_here","_law_names_here","_law_signs_here"] oW)(zQa:fP P w K mg base bL 3 "_law_put" ["_law_told","_law_pictures"] ni)(zyb:fP P w K mg base bL 1 "_law_number" ["_law_rules","_law_told","_law_again"] iI):bb P w K mg base bL 5 f fd ["_law_cells","_law_names_here","_law_signs_here","_law_most"] nr:=by
 have sc:=tH
 walk_at "f"
 ·obtain⟨lc,b,cells,p,sg,most,rfl,_⟩:=h;rfl
 ·obtain⟨lc,b,cells,p,sg,most,rfl,hlc,hc1,hc2,hm,hb,hp,hpn,hsg,q⟩:=h
  have hu:=hr.units
  refine⟨_,(af (ay (i:=4) sc.nd rfl (Or.inl rfl) (bf ae))
   (af (ay (i:=5) sc.nd rfl (Or.inl rfl) (bf ae))
   (af (bD PassesOwn.never rfl (cC (pv 0)) (aF (i:=6) sc.nd rfl (Or.inl rfl))
   (af (ld (aP zLc (hr.mono (by decide)) rfl a_ (aa (pv 5) (aa (pv 6) (aa (pv 1) (aa (pv 2) ae))))) (im (n:=2) rfl (bj (aF (i:=7) sc.nd rfl (Or.inl rfl)) (bj (aF (i:=8) sc.nd rfl (Or.inl rfl)) eM))))
   (af (ay (i:=9) sc.nd rfl (Or.inl rfl) (aP zQa (hr.mono (by decide)) rfl a_ (aa (pv 7) (aa (cF ["_law_one"] [] rfl (bz.of (by kernel_rfl)) (by kernel_rfl) (cC (pv 8))
    (fun _ _ _ _=>(aF (i:=0) (by show(["_law_one"]:List Str).Nodup;decide +kernel) rfl (Or.inl rfl))) (fun _ _ _ _=>bU) (fun _ _ _ _=>(aC (kt (K:=K) rfl) (pv 0) ag (fun _ _=>rfl)))) ae))))
   (af (ay (i:=10) sc.nd rfl (Or.inl rfl) (am bt ag (au (o9 rfl) rfl nbsum xy (aa (cF ["_law_one"] [] rfl (bz.of (by kernel_rfl)) (by kernel_rfl) (cC (pv 8))
    (fun _ _ _ _=>(aF (i:=0) (by show(["_law_one"]:List Str).Nodup;decide +kernel) rfl (Or.inl rfl))) (fun _ _ _ _=>bU) (fun _ _ _ _=>(aC (kt (K:=K) rfl) (pv 0) ag (fun _ _=>rfl)))) ae))))
   (af (ay (i:=11) sc.nd rfl (Or.inl rfl) (am bt ag (yS rfl rfl nb.max (aa (cF ["_law_one"] [] rfl (bz.of (by kernel_rfl)) (by kernel_rfl) (cC (pv 8))
    (fun _ _ _ _=>(aF (i:=0) (by show(["_law_one"]:List Str).Nodup;decide +kernel) rfl (Or.inl rfl))) (fun _ _ _ _=>bU) (fun _ _ _ _=>(aC (kt (K:=K) rfl) (pv 0) ag (fun _ _=>rfl)))) ae) (zL ag Au))))
   (ah (bd (PW.pt (m_ (aB nQ (am dD (au aO rfl nb.len aR (aa (pv 9) ae)) (au bo rfl nb.len aR (aa (aC bc (pv 9) ag (fun _ _=>rfl)) ae))) (pv 3) (aK _)) (m_ (aB nQ (pv 10) ag (aK _)) (qa (aB nQ (pv 11) ag (aK _))))))
   (af (ay (i:=12) sc.nd rfl (Or.inl rfl) (aP zyb (hr.mono (by decide)) rfl a_ (aa (pv 4) (aa (pv 7) (aa (qp dB (am aQ (am aU (pv 6) ag) ag) ag (aK _)) ae)))))
   (ah (bd (aB uM (pv 12) m3 (aK _))
   (af (ay (i:=13) sc.nd rfl (Or.inl rfl) (am bP (aW (aa (pv 12) ae)) (dI i9 rfl nb.tuple nh (aa (cF ["_law_one"] [] rfl (bz.of (by kernel_rfl)) (by kernel_rfl) (cC (pv 8))
    (fun _ _ _ _=>(aF (i:=0) (by show(["_law_one"]:List Str).Nodup;decide +kernel) rfl (Or.inl rfl))) (fun _ _ _ _=>bU) (fun _ _ _ _=>(aC (kt (K:=K) rfl) (pv 0) ag (fun _ _=>rfl)))) ae))))
   (af (ay (i:=14) sc.nd rfl (Or.inl rfl) (am bt (aC aN (aC bc (pv 4) (pv 12) (fun _ _=>rfl)) ag (fun _ _=>rfl)) (au (o9 rfl) rfl nbsum xy (aa (cF ["_law_one"] [] rfl (bz.of (by kernel_rfl)) (by kernel_rfl) (cC (pv 8))
    (fun _ _ _ _=>(aF (i:=0) (by show(["_law_one"]:List Str).Nodup;decide +kernel) rfl (Or.inl rfl))) (fun _ _ _ _=>bU) (fun _ _ _ _=>(aC (kt (K:=K) rfl) (pv 0) ag (fun _ _=>rfl)))) ae))))
   (ah (bE (dm PySem.F.plainAttrs_list PySem.F.slot_list_append PySem.F.type_list_append b7 (pv 5) (aa (aW (aa (pv 13) (aa (aC aN (aC bc (pv 4) (pv 12) (fun _ _=>rfl)) ag (fun _ _=>rfl)) (aa (pv 9) (aa (pv 14) (aa (pv 10) (aa (pv 11) ae))))))) ae))))))
   aM)))
   aM)))))))
   (ah (aL (aW (aa (pv 4) (aa (pv 5) ae)))))))),?_⟩
  walk_at "n"
  refine⟨Gd _,fun lr hlr=>h1 _ _ ?_⟩
  walk_at "nc"
  refine⟨Gd _,fun ls hls=>h1 _ _ ?_⟩
  walk_at "nc"
  have sA:=(ad (o:=.lst []) hlr).trans (ad (o:=.lst []) hls)
  refine⟨⟨_,aT.of (sA _ _ hlc)⟩,?_⟩
  have flr:ap (ap H lr (.lst [])) ls (.lst []) lr=some (.lst []):=ad hls _ _ ac
  have fls:ap (ap H lr (.lst [])) ls (.lst []) ls=some (.lst []):=ac
  have hls0:H ls=none:=by
   by_cases e:ls=lr
   ·rw[e];exact hlr
   ·rwa [aj e]at hls
  have hne:lr≠ls:=fun e=>by rw[<- e,ac]at hls;cases hls
  generalize ap (ap H lr (.lst [])) ls (.lst [])=H1 at sA flr fls ⊢
  refine fT (xs:=cells.map V.int) (fun i σ H'=>B9 H p sg lr ls cells.length i H'/\∃z1 z2 z3 z4 z5 z6 z7 z8 z9,σ=[some (V.ref lc),some (V.ref b),some (V.str (tx sg)),some (V.int most),some (V.ref lr),some (V.ref ls),z1,z2,z3,z4,z5,z6,z7,z8,z9]) ⟨⟨sA,⟨[],[],⟨flr,rfl,fun i t r e=>by simp at e⟩,fun r hr=>(nomatch hr),by simp,[],[],fls,⟨rfl,fun i a x e=>by simp at e⟩,fun x hx=>(nomatch hx),fun h=>absurd h (by decide),fun _=>rfl,by simp,by simp⟩,Gd _⟩,_,_,_,_,_,_,_,_,_,rfl⟩ ?_ ?_ ?_
  ·rintro i σ H' _ ⟨⟨sm,_⟩,_⟩
   exact aT.of (sm _ _ hlc)
  ·rintro i x σ H' hx ⟨⟨sm,⟨ts,rs,R,hro,h24,as,xs,hst,hin,hgood,hn1,hn0,hxl,hrl⟩,hi⟩,z1,z2,z3,z4,z5,z6,z7,z8,z9,rfl⟩
   rw[FU]at hx
   obtain⟨c,hc,rfl⟩:=Gh.mp hx
   have hi1:i<cells.length:=(FQ.mp hc).1
   have hsr:∀x∈xs,x.nm∈p/\∃r c,i7 x.p r c:=fun x hx=>⟨(hgood x hx).nm,(hgood x hx).gr.pic6 (fun r hr=>(hro r hr).good)⟩
   walk_at "o"
   refine⟨ls,b,c,as,xs,p,sg,rfl,hst,hin,sm _ _ hb,hp,hpn,hsg,hsr,by omega,fun tp t lb r bs ys H2 htp ht hr0 hlb hin2 hys hnx hlb0 s2=>?_⟩
   refine⟨tp,rfl,_,bq.of htp,rfl,_,_,rfl,_,_,rfl,rfl,h2 _ _ ?_⟩
   clear h2
   obtain⟨fs,rfl,rfl,hfs⟩:=hin2.full
   have hfl:fs.length<=2:=by rw[<- FS (f:=FI.x)];rcases hnx with⟨_,e⟩ | ⟨_,x,e,_⟩ | ⟨_,x,y,e,_⟩<;>(rw[e];simp)
   walk_at "o"
   refine⟨⟨_,aT.of hlb⟩,?_⟩
   refine eZ ⟨_,rfl⟩ hlb hfs (by omega) (f:=fun z=>V.ref z.lp) (fun _=>rfl) fun H3 s3=>?_
   have h6:∀y∈fs.map FI.x,∃r c,i7 y.p r c:=fun y hy=>(hsr y (hys y hy)).2
   obtain⟨hfit,hmade⟩:=vW hnx h6
   obtain⟨pc,hpc⟩:=Option.ne_none_iff_exists'.mp hmade
   refine fun pl hpl=>⟨t,pl,r,fs.map FI.lp,(fs.map FI.x).map SI.p,rfl,ad hpl _ _ (s3 _ _ ht),hr0.good.k4,hr0.good.good.t0,hr0.good.good.t7,⟨by rw[ac,F5];rfl,by simp,fun i h1 h2=>?_⟩,hfit,fun pc' hpc' lq H4 hlq s4=>h2 _ _ ?_,fun e=>absurd e hmade⟩
   ·simp only[List.getElem_map]
    exact ad hpl _ _ (s3 _ _ (hfs _ (FZ _)).2.2.1)
   clear h2
   rw[hpc]at hpc'
   cases hpc'
   have s5:aq H2 H4:=(s3.trans (ad hpl)).trans s4
   have hlb4:=s5 _ _ hlb
   have hfs4:∀z∈fs,z.at H4:=fun z hz=>(hfs z hz).up s5
   walk_at "o"
   refine⟨⟨_,aT.of hlb4⟩,?_⟩
   refine eZ ⟨_,rfl⟩ hlb4 hfs4 (by omega) (f:=fun z=>V.int z.x.m) (fun _=>rfl) fun H5 s6=>?_
   refine fun l1 hl1=>⟨fs.map (fun z=>z.x.m),by rw[F5];exact aT.of ac,h2 _ _ ?_⟩
   clear h2
   have s7:=s5.trans (s6.trans (ad (o:=.lst (fs.map (fun z=>V.int z.x.m))) hl1))
   have hlq7:=(s6.trans (ad (o:=.lst (fs.map (fun z=>V.int z.x.m))) hl1)) _ _ hlq
   generalize ap H5 l1 (.lst (fs.map (fun z=>V.int z.x.m)))=H6 at s7 hlq7 ⊢
   obtain⟨many,hmany⟩:∃m,1+(fs.map (fun z=>z.x.m)).sum=m:=⟨_,rfl⟩
   rw[hmany]
   clear s6 hl1 hlb4 hfs4 s5 hlq
   have hlb6:=s7 _ _ hlb
   have hfs6:∀z∈fs,z.at H6:=fun z hz=>(hfs z hz).up s7
   walk_at "o"
   refine⟨⟨_,aT.of hlb6⟩,?_⟩
   refine eZ ⟨_,rfl⟩ hlb6 hfs6 (by omega) (f:=fun z=>V.int (z.x.k:Int)) (fun _=>rfl) fun H7 s8=>?_
   refine fun l2 hl2=>⟨fs.map (fun z=>(z.x.k:Int)),by rw[F5];exact aT.of ac,fun M hM=>h2 _ _ ?_⟩
   clear h2
   have s9:=s7.trans (s8.trans (ad (o:=.lst (fs.map (fun z=>V.int (z.x.k:Int)))) hl2))
   have hlq9:=(s8.trans (ad (o:=.lst (fs.map (fun z=>V.int (z.x.k:Int)))) hl2)) _ _ hlq7
   generalize ap H7 l2 (.lst (fs.map (fun z=>V.int (z.x.k:Int))))=H8 at s9 hlq9 ⊢
   clear s8 hl2 hlb6 hfs6 s7 hlq7
   have hx0:xs=[]->fs=[]/\r.1=0:=fun e=>by
    have hf0:fs=[]:=by
     cases fs with
     |nil=>rfl
     |cons z fs=>have:=hys z.x (by simp);rw[e]at this;exact nomatch this
    refine⟨hf0,?_⟩
    rw[hf0]at hnx
    rcases hnx with⟨e,_⟩ | ⟨_,x,e,_⟩ | ⟨_,x,y,e,_⟩
    ·exact e
    ·cases e
    ·cases e
   obtain⟨pr,pcc,pc6⟩:=wz hfit hpc hr0.good.good.sg
   have s10:=s2.trans s9
   have sH8:=sm.trans s10
   have keep:xs≠[]->B9 H p sg lr ls cells.length (i+1) H8:=fun hx=>⟨sH8,⟨ts,rs,R.up s10,hro,h24,as,xs,s10 _ _ hst,hin.up s10,hgood,fun _=>hx,fun h=>absurd h (by omega),by omega,by omega⟩,hi1⟩
   have hpl:0<pc.length:=by rw[pc6.rc.1];exact pc6.r0
   have hrow:hZ (az pc) 0=some (V.str (tx pc[0])):=aV (j:=0) (bI hpl)
   have hr0l:(pc[0]).length=pcc:=pc6.rc.2 _ (FZ hpl)
   have hprl:(az pc).length=pr:=by rw[aJ,pc6.rc.1]
   have hrl0:(tx pc[0]).length=pcc:=by rw[aA,hr0l]
   have b1:=pc6.r6
   have b2:=pc6.c6
   refine tD fun tb1 tb2 e1 e2=>?_
   walk_at "wp"
   refine⟨_,aT.of hlq9,_,aT.of hlq9,_,hrow,_,rfl,by rw[hrl0];exact ak (by omega),.inl (by rw[hprl];omega),?_⟩
   rw[hprl,hrl0]
   have hfirst:xs=[]->(pr:Int)*(pcc:Int)<=most/\many<=60/\1+M<=18:=fun e=>by
    obtain⟨e1,e2⟩:=hx0 e
    subst e1
    have e3:je 0 r.2 []=some pc:=by rw[<- e2];exact hpc
    cases(show some [r.2.sg]=some pc from e3)
    have e4:pr=1:=pc6.rc.1.symm
    have e5:pcc=1:=hr0l.symm.trans (iL hr0.good.good.sg)
    subst e4 e5
    refine⟨by omega,by rw[<- hmany];decide,?_⟩
    rcases hM with⟨_,rfl⟩ | ⟨h,_⟩
    ·decide
    ·exact nomatch h
   refine cU (fun t1=>?_) (fun t1=>by rw[e2];walk_at "wp";exact keep fun e=>t1 (hfirst e).1)
   refine cU (fun t2=>?_) (fun t2=>by rw[e2];walk_at "wp";exact keep fun e=>t2 (hfirst e).2.1)
   refine cU (fun t3=>?_) (fun t3=>by rw[e2];walk_at "wp";exact keep fun e=>t3 (hfirst e).2.2)
   rw[e1]
   clear e1 e2
   have hlb8:=s9 _ _ hlb
   have hfs8:∀z∈fs,z.at H8:=fun z hz=>(hfs z hz).up s9
   have hM':((fs.map FI.x).map (fun y=>(y.k:Int))=[]/\M=0)\/(M∈(fs.map FI.x).map (fun y=>(y.k:Int))/\∀a∈(fs.map FI.x).map (fun y=>(y.k:Int)),a<=M):=by
    rw[F5];exact hM
   have R8:=R.up s10
   have st8:=s10 _ _ hst
   have in8:=hin.up s10
   refine ai fun N3 h3=>?_
   walk_at "wp"
   refine vy R8 hro (s9 _ _ ht) hr0 h24 (fun n r' ts' rs' H9 N=>h3 _ _ ?_) fun he H9 s11=>h3 _ _ ?_
   ·clear h3
    refine tD fun tb1 tb2 e1 e2=>?_
    walk_at "wp"
    refine cU (fun _=>?_) (fun e=>absurd (fun e=>by cases e) e)
    rw[e1]
    clear e1 e2
    have hlbr:lb≠lr:=fun e=>by rw[e,R.1]at hlb0;cases hlb0
    have hlb9:=N.kp.ne hlb8 hlbr
    have hfs9:∀z∈fs,z.at H9:=fun z hz=>N.kp.fi R8.1 (hfs8 z hz)
    refine ai fun N4 h4=>?_
    walk_at "wp"
    refine⟨ak (by decide),fun p1 hp1=>⟨⟨_,aT.of (ad hp1 _ _ hlb9)⟩,?_⟩⟩
    have e9:ap H9 p1 (.tup [V.int (n:Int)]) p1=some (.tup [V.int (n:Int)]):=ac
    have s9':=ad (o:=.tup [V.int (n:Int)]) hp1
    generalize ap H9 p1 (.tup [V.int (n:Int)])=H10 at e9 s9' ⊢
    refine eZ ⟨_,rfl⟩ (s9' _ _ hlb9) (fun z hz=>(hfs9 z hz).up s9') (by omega) (f:=fun z=>z.vt) (fun _=>rfl) fun H11 s11=>?_
    intro l3 hl3
    refine⟨_,.inl ⟨aT.of ac,fun l4 hl4=>?_⟩⟩
    have sB:=(ad (o:=.lst (fs.map FI.vt)) hl3).trans (ad (o:=.tup (fs.map FI.vt)) hl4)
    refine dc (ad hl4 _ _ (ad hl3 _ _ (s11 _ _ e9))) ac (by simp) (by simp;omega) fun tr H12 htr s12=>h4 _ _ ?_
    clear h4
    refine ai fun N5 h5=>?_
    walk_at "wp"
    have sC:=s9'.trans (s11.trans (sB.trans s12))
    have R12:=N.rows.up sC
    obtain⟨tn,htn⟩:∃tn,ts'[n]?=some tn:=⟨_,FP (by have:=(FQ.mp N.at').1;have:=N.rows.2.1;omega)⟩
    have eat:hZ (ts'.map V.ref) (n:Int)=some (V.ref tn):=aV (by rw[FU,htn];rfl)
    have hrow':=R12.2.2 n tn r' htn N.at'
    refine⟨_,aT.of R12.1,_,eat,_,rfl,_,bq.of hrow',_,A8 r',⟨_,aT.of (sC _ _ hlb9)⟩,?_⟩
    refine eZ ⟨_,rfl⟩ (sC _ _ hlb9) (fun z hz=>(hfs9 z hz).up sC) (by omega) (f:=fun z=>V.int z.x.c) (fun _=>rfl) fun H13 s13=>?_
    intro l5 hl5
    have s14:=s13.trans (ad (o:=.lst (fs.map (fun z=>V.int z.x.c))) hl5)
    have e14:ap H13 l5 (.lst (fs.map (fun z=>V.int z.x.c))) l5=some (.lst ((fs.map (fun z=>z.x.c)).map V.int)):=by rw[ac,F5];rfl
    generalize ap H13 l5 (.lst (fs.map (fun z=>V.int z.x.c)))=H14 at s14 e14 ⊢
    have st9:=N.kp.ne st8 hne.symm
    have st14:=s14 _ _ (sC _ _ st9)
    have R14:=R12.up s14
    have sD:=sC.trans s14
    have sH9:=N.kp.same sH8 hlr
    have hsum:(fs.map (fun z=>z.x.c)).sum=((fs.map FI.x).map SI.c).sum:=by rw[F5];rfl
    refine⟨_,aT.of e14,_,rfl,h5 _ _ ?_⟩
    clear h5
    walk_at "wp"
    refine⟨.inl ⟨rfl,_,aT.of st14⟩,_,aT.of R14.1,_,eat,_,rfl,_,bq.of (s14 _ _ hrow'),_,A5 r',ak (by decide),fun np hnp=>⟨_,ad hnp _ _ st14,?_,?_⟩⟩
    ·rw[FS,hin.1];exact bw (by omega)
    rw[hsum]
    obtain⟨gr,hM0⟩:=y8 N.at' N.as' hnx (fun y hy=>N.up (hgood y (hys y hy)).gr) hpc hM'
    have hk:(1+M:Int)=((M.toNat+1:Nat):Int):=by omega
    rw[hk]
    have sE:=ad (o:=.tup [V.ref tr,V.str (tx r'.2.n),V.ref lq,V.int (r'.2.c+((fs.map FI.x).map SI.c).sum),V.int many,V.int ((M.toNat+1:Nat):Int)]) hnp
    have eN:ap H14 np (.tup [V.ref tr,V.str (tx r'.2.n),V.ref lq,V.int (r'.2.c+((fs.map FI.x).map SI.c).sum),V.int many,V.int ((M.toNat+1:Nat):Int)]) np=some (.tup [V.ref tr,V.str (tx r'.2.n),V.ref lq,V.int (r'.2.c+((fs.map FI.x).map SI.c).sum),V.int many,V.int ((M.toNat+1:Nat):Int)]):=ac
    generalize ap H14 np (.tup [V.ref tr,V.str (tx r'.2.n),V.ref lq,V.int (r'.2.c+((fs.map FI.x).map SI.c).sum),V.int many,V.int ((M.toNat+1:Nat):Int)])=H15 at sE eN ⊢
    have sF:=sD.trans sE
    have st15:=sE _ _ st14
    have in15:bu H15 as xs:=(N.kp.st R8.1 in8).up sF
    have hpcn:pc≠[]:=fun e=>by rw[e]at hpl;cases hpl
    have item:fH H15 np ⟨.tup (.int (n:Int)::(fs.map FI.x).map SI.d),r'.2.n,pc,r'.2.c+((fs.map FI.x).map SI.c).sum,many,M.toNat+1⟩:=
     ⟨V.ref tr,lq,eN,aZ.node (sE _ _ (s14 _ _ htr)) (rO fun z hz=>(hfs9 z hz).up sF),sF _ _ (N.kp.ne hlq9 (tE R8.1 hlq9 hpcn)),hpcn⟩
    have stk:=in15.add (o:=.lst (as.map V.ref++[V.ref np])) item st15
    refine⟨aX (sH9.trans sF) hls0,⟨ts',rs',(R14.up sE).keep st15 hne,N.ro,N.len,as++[np],_,by rw[ac,F3];rfl,stk,fun x hx=>?_,fun _=>by simp,fun h=>absurd h (by omega),by simp;omega,by have:=N.le1;omega⟩,hi1⟩
    rcases F4.mp hx with h | h
    ·exact⟨N.up (hgood x h).gr,(hgood x h).nm,(hgood x h).k1,(hgood x h).m1,(hgood x h).m2⟩
    ·rw[FT.mp h]
     refine⟨gr,(N.ro _ (FV N.at')).n,by show M.toNat+1<=18;omega,?_,t2⟩
     have e:=wC (fs.map FI.x) fun y hy=>(hgood y (hys y hy)).m1
     rw[F5]at e
     have e1:lH (.int (n:Int))=1:=by unfold lH;rfl
     have e2:lH (.tup (.int (n:Int)::(fs.map FI.x).map SI.d))=lH (.int (n:Int))+jc ((fs.map FI.x).map SI.d):=by rw[lH,jc]
     show many=(lH (.tup (.int (n:Int)::(fs.map FI.x).map SI.d)):Int)
     rw[e2,e1,Int.natCast_add,F5,e,<- hmany]
     have e3:fs.map (fun z=>z.x.m)=(fs.map FI.x).map SI.m:=by rw[F5];rfl
     rw[e3]
     rfl
   ·clear h3
    refine tD fun tb1 tb2 e1 e2=>?_
    walk_at "wp"
    rw[e2]
    walk_at "wp"
    have sx:=s10.trans s11
    exact⟨sm.trans sx,⟨ts,rs,R.up sx,hro,h24,as,xs,sx _ _ hst,hin.up sx,hgood,fun _ e=>by(by_cases h0:i=0;rw[hn0 h0]at he;cases he;exact hn1 (by omega) e),fun h=>absurd h (by omega),by omega,by omega⟩,hi1⟩
  ·rintro σ H' ⟨⟨sm,⟨ts,rs,R,hro,h24,as,xs,hst,hin,hgood,hn1,hn0,hxl,hrl⟩,hi⟩,z1,z2,z3,z4,z5,z6,z7,z8,z9,rfl⟩
   refine h1 _ _ ?_
   walk_at "wp"
   rw[FS]at hn1 hxl hrl
   exact⟨ak (by decide),fun tp htp=>q tp lr ls ts rs as xs _ ac (R.up (ad htp)) hro h24 hrl (ad htp _ _ hst) (hin.up (ad htp)) hgood (hn1 hc1) (by omega) hne hlr hls0 (sm.trans (ad htp))⟩
abbrev il:Stmt:=h7 56
def jX(R:RC)(CG:Addr):Sp:=fun vs H Q _=>∃(l b:Addr) (p:bS) (sg st:List Nat) (ts:List Addr) (rs:List (Nat×RV)),vs=[.ref l,.ref b,.str (tx sg)]/\b9 H l ts rs/\(∀r∈rs,so r)/\rs.length<=24/\H b=some (.lst (az p))/\p[0]?=some st/\sg.length<=100/\st.length<=100/\iu sg st rs=none/\∀b db as H',iB R H' CG db b sg st as rs->aq H H'->Q (.ref b) H'
theorem qO:aI ["_law_rules","_law_names_here","_law_signs_here"] ["_law_rules","_law_names_here","_law_signs_here"] (ao il):=by walk_at "c"
theorem qv{R:RC}{f CG zaa:Addr}{fd:FuncData}(F:d9 K "_law_grammar" "_law_grammar" il f fd)(nb:NB mg)(gk:DO K CG)(zOa:fP P w K mg base bL 6 "_law_rule_made" ["_law_told"] (kU R))(zzb:m5 P w K mg base (dP P w) 4 "Grammar" CG ["self","signs","start","rules"] (gm K R zaa)):bb P w K mg base bL 7 f fd ["_law_rules","_law_names_here","_law_signs_here"] (jX R CG):=by
 have sc:=qO
 walk_at "f"
 ·obtain⟨l,b,p,sg,st,ts,rs,rfl,_⟩:=h;rfl
 ·obtain⟨l,b,p,sg,st,ts,rs,rfl,o,hg,hn,hb,hp0,hsg,hst,g0,q⟩:=h
  refine⟨_,(ah (aL (jQ (CX:=dP P w) zzb (hr.mono (by decide)) rfl bJ (aa (pv 2) (aa (aC bc (pv 1) ag (fun _ _=>rfl)) (aa (cF ["_law_told"] [] rfl (bz.of (by kernel_rfl)) (by kernel_rfl) (cC (pv 0))
    (fun _ _ _ _=>(aF (i:=0) (by show(["_law_told"]:List Str).Nodup;decide +kernel) rfl (Or.inl rfl))) (fun _ _ _ _=>bU) (fun _ _ _ _=>(aP zOa (hr.mono (by decide)) rfl a_ (aa (pv 0) ae)))) ae)))))),?_⟩
  walk_at "wp"
  have h0:hZ (az p) 0=some (V.str (tx st)):=(show hZ _ ((0:Nat):Int)=_ from aV (by unfold az;rw[FU,hp0];rfl))
  refine⟨_,aT.of hb,_,h0,⟨_,aT.of o.1⟩,sL o hg (by omega) fun as H2 s2 hA lr hlr x dx hx hdx hne=>?_⟩
  have s3:aq H2 (ap H2 lr (.lst (as.map V.ref))):=ad hlr
  have e3:ap H2 lr (.lst (as.map V.ref)) lr=some (.lst (as.map V.ref)):=ac
  generalize ap H2 lr (.lst (as.map V.ref))=H3 at s3 e3 hx hdx ⊢
  have sm4:aq H3 (ap (ap H3 dx (.own x)) x (.ins CG dx [])):=(ad hdx).trans (ad (by rw[aj (Ne.symm hne)];exact hx))
  refine⟨x,CG,dx,lr,sg,st,as,rs,rfl,ac,gk.cl.cl,gk.na,by omega,by omega,sm4 _ _ e3,(hA.up s3).up sm4,fun r hr=>(hg r hr).k4,by omega,(fun _ H4 lk pn t sx gA _ _ _=>⟨rfl,?_⟩),fun y hy=>nomatch hy.symm.trans g0⟩
  exact q x dx _ H4 gA.f ((s2.trans s3).trans fun b u e=>sx b u (aG e hx) (sm4 b u e))
abbrev lu:Stmt:=h7 57
def nP(K:W.Frag)(R:RC)(CG:Addr):Sp:=fun vs H Q _=>∃(a:Addr) (ns:List Int) (most steps:Int),vs=[.ref a,.int most,.int steps]/\aT K H a (ns.map V.int)/\1<=most/\0<=steps/\steps<=19 /\
 ∀tp lr ls gr gd ga ts rs p sg st as xs H',H' tp=some (.tup [.ref lr,.ref ls,.ref gr])->b9 H' lr ts rs->(∀r∈rs,g_ p sg r)->rs.length<=24->p.length=4->(∀r∈p,cz r=true)->cL sg=true->p[0]?=some st->H' ls=some (.lst (as.map V.ref))->bu H' as xs->(∀x∈xs,j1 rs p x)->xs≠[]->xs.length<=100->iB R H' CG gd gr sg st ga rs->aq H H'->Q (.ref tp) H'
theorem tV:aI ["_law_script","_law_most","_law_steps","_law_names_here","_law_signs_here","_law_many","_law_cells","_law_rules","_law_stock","_law_k"] ["_law_script","_law_most","_law_steps"] (ao lu):=by walk_at "c"
theorem uo{R:RC}{f CG:Addr}{fd:FuncData}(F:d9 K "_law_drawn" "_law_drawn" lu f fd)(nb:NB mg)(zoa:fP P w K mg base bL 1 "_law_cell" ["_law_script","_law_k"] (lx K))(zic:fP P w K mg base bL 1 "_law_names" ["_law_cell_here"] nu)(zjc:fP P w K mg base bL 1 "_law_signs" ["_law_cell_here","_law_most"] m4)(zta:fP P w K mg base bL 1 "_law_drawn_rule" ["_law_cell_here","_law_names_here","_law_signs_here"] dX)(zkc:fP P w K mg base bL 5 "_law_grown" ["_law_cells","_law_names_here","_law_signs_here","_law_most"] nr)(zbb:fP P w K mg base bL 7 "_law_grammar" ["_law_rules","_law_names_here","_law_signs_here"] (jX R CG)):bb P w K mg base bL 8 f fd ["_law_script","_law_most","_law_steps"] (nP K R CG):=by
 have sc:=tV
 walk_at "f"
 ·obtain⟨a,ns,most,steps,rfl,_⟩:=h;rfl
 ·obtain⟨a,ns,most,steps,rfl,ha,hm,hs0,hs19,q⟩:=h
  refine⟨_,(af (ay (i:=3) sc.nd rfl (Or.inl rfl) (aP zic (hr.mono (by decide)) rfl a_ (aa (aP zoa (hr.mono (by decide)) rfl a_ (aa (pv 0) (br ae))) ae)))
   (af (ay (i:=4) sc.nd rfl (Or.inl rfl) (aP zjc (hr.mono (by decide)) rfl a_ (aa (aP zoa (hr.mono (by decide)) rfl a_ (aa (pv 0) (br ae))) (br ae))))
   (af (ay (i:=5) sc.nd rfl (Or.inl rfl) (am aQ (aP zoa (hr.mono (by decide)) rfl a_ (aa (pv 0) (br ae))) (am bt (pv 2) ag)))
   (af (ay (i:=6) sc.nd rfl (Or.inl rfl) (am tO (bf (aa (am dD (am aU (aP zoa (hr.mono (by decide)) rfl a_ (aa (pv 0) (br ae))) ag) ag) ae)) (cF ["_law_k"] [0] rfl (bz.of (by kernel_rfl)) (by kernel_rfl) (bR rfl nb.range (aa (pv 5) ae))
    (fun _ _ _ _=>(aF (i:=0) (by show(["_law_k","_law_script"]:List Str).Nodup;decide +kernel) rfl (Or.inl rfl))) (fun _ _ _ _=>bU) (fun _ _ _ _=>(aP zoa (hr.mono (by decide)) rfl a_ (aa (pv 1) (aa (am bt ag (pv 0)) ae)))))))
   (af (ld (aP zkc (hr.mono (by decide)) rfl a_ (aa (pv 6) (aa (pv 3) (aa (pv 4) (aa (pv 1) ae))))) (im (n:=2) rfl (bj (aF (i:=7) sc.nd rfl (Or.inl rfl)) (bj (aF (i:=8) sc.nd rfl (Or.inl rfl)) eM))))
   (af (bD PassesOwn.never rfl (bR rfl nb.range (aa (am aQ (am aU (aP zoa (hr.mono (by decide)) rfl a_ (aa (pv 0) (br ae))) ag) ag) ae)) (aF (i:=9) sc.nd rfl (Or.inl rfl))
   (ah (bE (dm PySem.F.plainAttrs_list PySem.F.slot_list_append PySem.F.type_list_append b7 (pv 7) (aa (aP zta (hr.mono (by decide)) rfl a_ (aa (aP zoa (hr.mono (by decide)) rfl a_ (aa (pv 0) (aa (am bt ag (pv 9)) ae))) (aa (pv 3) (aa (pv 4) ae)))) ae)))))
   (ah (aL (aW (aa (pv 7) (aa (pv 8) (aa (aP zbb (hr.mono (by decide)) rfl a_ (aa (pv 7) (aa (pv 3) (aa (pv 4) ae)))) ae)))))))))))),?_⟩
  walk_at "n"
  refine⟨a,ns,0,rfl,ha,by omega,fun c0=>⟨c0,rfl,fun b p H1 hb0 hb hp hpn s1=>h1 _ _ ?_⟩⟩
  walk_at "nc"
  refine⟨a,ns,1,rfl,s1.seq ha,by omega,fun c1=>⟨c1,rfl,fun sg H2 hsg s2=>h1 _ _ ?_⟩⟩
  clear h1
  have s02:=s1.trans s2
  walk_at "n"
  refine⟨a,ns,7,rfl,s02.seq ha,by omega,fun c7=>⟨c7,rfl,by omega,h1 _ _ ?_⟩⟩
  clear h1
  obtain⟨mn,hmn⟩:∃mn:Nat,c7%(steps+1)=(mn:Int):=⟨_,(GI (GG _ (by omega))).symm⟩
  have hmn2:mn<=19:=by have:=GH c7 (b:=steps+1) (by omega);omega
  rw[hmn]
  walk_at "n"
  refine⟨a,ns,2,rfl,s02.seq ha,by omega,fun c2=>?_⟩
  walk_at "wp"
  refine⟨ak (by decide),fun p0 hp0=>⟨by omega,by omega,?_⟩⟩
  have s3:=ad (o:=.lst [V.int (c2/8*8)]) hp0
  have e3:ap H2 p0 (.lst [V.int (c2/8*8)]) p0=some (.lst [V.int (c2/8*8)]):=ac
  generalize ap H2 p0 (.lst [V.int (c2/8*8)])=H3 at s3 e3 ⊢
  have s03:=s02.trans s3
  rw[F0]
  refine jD (fun i acc σ H'=>aq H3 H'/\i<=mn/\(∃cs:List Int,acc=cs.map V.int/\cs.length=i)/\∃z,σ=[z,some (V.ref a)]) ⟨fun _ _ e=>e,Gd _,⟨[],rfl,rfl⟩,_,rfl⟩ ?_ (fun i acc σ H' h=>h.2.1) ?_ ?_
  ·rintro i acc σ H' ⟨_,hi,⟨cs,rfl,hc⟩,_⟩
   rw[FS,hc];exact bw (by omega)
  ·rintro i acc σ H' hi ⟨sm,_,⟨cs,rfl,hc⟩,z,rfl⟩
   walk_at "wp"
   exact⟨a,ns,8+i,by simp,(s03.trans sm).seq ha,by omega,fun c=>⟨sm,hi,⟨cs++[c],by simp,by simp[hc]⟩⟩⟩
  rintro acc σ H4 ⟨s4,_,⟨cs,rfl,hc⟩,_⟩
  intro l1 hl1
  refine⟨_,ad hl1 _ _ (s4 _ _ e3),_,ac,?_,fun lc hlc=>h1 _ _ ?_⟩
  ·rw[FS,hc];exact ak (by simp;omega)
  clear h1
  have s5:=s4.trans ((ad (o:=.lst (cs.map V.int)) hl1).trans (ad (o:=.lst ([V.int (c2/8*8)]++cs.map V.int)) hlc))
  have e5:ap (ap H4 l1 (.lst (cs.map V.int))) lc (.lst ([V.int (c2/8*8)]++cs.map V.int)) lc=some (.lst ((c2/8*8::cs).map V.int)):=ac
  generalize ap (ap H4 l1 (.lst (cs.map V.int))) lc (.lst ([V.int (c2/8*8)]++cs.map V.int))=H5 at s5 e5 ⊢
  have s05:=s03.trans s5
  have hb5:=s5 _ _ (s3 _ _ (s2 _ _ hb))
  walk_at "n"
  refine⟨lc,b,_,p,sg,most,rfl,e5,by simp,by simp;omega,hm,hb5,hp,hpn,hsg,fun tp lr ls ts rs as xs H6 htp hR hro h24 hcl hst hin hgood hx0 hxl hne hlr hls s6=>⟨tp,rfl,_,bq.of htp,rfl,_,_,rfl,_,_,rfl,rfl,h1 _ _ ?_⟩⟩
  clear h1
  have s06:=s05.trans s6
  have hlr0:=d_ s05 hlr
  have hls0:=d_ s05 hls
  have hcl':rs.length<=20:=by simp at hcl;omega
  walk_at "n"
  refine⟨a,ns,7,rfl,s06.seq ha,by omega,fun c7'=>⟨c7',rfl,?_⟩⟩
  obtain⟨ex,hex⟩:∃ex:Nat,c7'/17%5=(ex:Int):=⟨_,(GI (GG _ (by omega))).symm⟩
  have hex2:ex<=4:=by have:=GH (c7'/17) (b:=5) (by omega);omega
  rw[hex,F0]
  refine⟨by omega,by omega,?_⟩
  have hb6:=s6 _ _ hb5
  refine eY (fun i σ H'=>aq H H'/\H' b=some (.lst (az p))/\(∃ts rs,b9 H' lr ts rs/\(∀r∈rs,g_ p sg r)/\rs.length<=20+i/\H' ls=some (.lst (as.map V.ref))/\bu H' as xs/\(∀x∈xs,j1 rs p x))/\∃z,σ=[some (V.ref a),some (V.int most),some (V.int steps),some (V.ref b),some (V.str (tx sg)),some (V.int (mn:Int)),some (V.ref lc),some (V.ref lr),some (V.ref ls),z]) ⟨s06,hb6,⟨ts,rs,hR,hro,hcl',hst,hin,hgood⟩,_,rfl⟩ ?_ ?_
  ·rintro i σ H' hi ⟨sm,hb',⟨ts,rs,hR,hro,hrl,hst,hin,hgood⟩,z,rfl⟩
   walk_at "wp"
   refine⟨.inl ⟨rfl,_,aT.of hR.1⟩,a,ns,24+i,by simp,sm.seq ha,by omega,fun c=>⟨c,b,p,sg,rfl,hb',hp,hpn,hsg,fun t r H7 hr0 ht _ s7=>?_⟩⟩
   have hR7:=hR.up s7
   have hlb:b≠lr:=fun e=>by rw[e,hlr]at hb5;cases hb5
   refine⟨_,hR7.1,by rw[FS,hR.2.1];exact bw (by omega),?_⟩
   refine⟨aX (sm.trans s7) hlr0,by rw[aj hlb];exact s7 _ _ hb',ts++[t],rs++[r],hR7.app ht,fun x hx=>?_,by simp;omega,by rw[aj hne.symm];exact s7 _ _ hst,⟨hin.1,fun i a x e1 e2=>((hin.2 i a x e1 e2).up s7).put hR7.1⟩,fun x hx=>(hgood x hx).more r⟩
   rcases F4.mp hx with h | h
   ·exact hro x h
   ·rw[FT.mp h];exact hr0
  rintro σ H7 ⟨sm,hb',⟨ts,rs,hR,hro,hrl,hst,hin,hgood⟩,z,rfl⟩
  refine h1 _ _ ?_
  walk_at "wp"
  have hp0:p[0]?=some (p[0]'(by omega)):=FP (by omega)
  have hstl:=iQ (hpn _ (FZ (show 0<p.length by omega)))
  have hsl:=jI hsg
  refine⟨lr,b,p,sg,_,ts,rs,rfl,hR,fun r hr=>(hro r hr).good,by omega,hb',hp0,by omega,by omega,v5 hsg (FZ _) hpn (by omega) (by omega) hro,fun gr gd ga H8 g8 s8=>⟨ak (by decide),fun tq htq=>?_⟩⟩
  have s9:=s8.trans (ad (o:=.tup [V.ref lr,V.ref ls,V.ref gr]) htq)
  exact q tq lr ls gr gd ga ts rs p sg _ as xs _ ac (hR.up s9) hro (by omega) hp hpn hsg hp0 (s9 _ _ hst) (hin.up s9) hgood hx0 hxl (g8.up (ad htq)) (sm.trans s9)
inductive av where
 |n0:Int->av
 |n1:Int->av->av
 |n2:Int->av->av->av
def av.i:av->Int
 | .n0 i=>i
 | .n1 i _=>i
 | .n2 i _ _=>i
def av.ps:av->List av
 | .n0 _=>[]
 | .n1 _ a=>[a]
 | .n2 _ a b=>[a,b]
def av.d:av->Dt
 | .n0 i=>.tup [.int i]
 | .n1 i a=>.tup [.int i,a.d]
 | .n2 i a b=>.tup [.int i,a.d,b.d]
def av.cnt:av->Nat
 | .n0 _=>1
 | .n1 _ a=>a.cnt+1
 | .n2 _ a b=>a.cnt+b.cnt+1
def av.dep:av->Nat
 | .n0 _=>1
 | .n1 _ a=>a.dep+1
 | .n2 _ a b=>max a.dep b.dep+1
theorem av.d_eq(t:av):t.d=.tup (.int t.i::t.ps.map av.d):=by cases t<;>rfl
theorem av.val{H:Hp}{v:V}{t:av}(h:aZ H t.d v):∃a vs,v=.ref a/\H a=some (.tup (.int t.i::vs))/\aD H (t.ps.map av.d) vs:=by
 rw[t.d_eq]at h
 unfold aZ at h
 obtain⟨a,xs,rfl,hta,hts⟩:=h
 obtain⟨x0,ys,rfl,hx0,htr⟩:=hts.uncons
 unfold aZ at hx0
 subst hx0
 exact⟨a,ys,rfl,hta,htr⟩
theorem av.of{H:Hp}{a:Addr}{vs:List V}{t:av}(h:H a=some (.tup (.int t.i::vs)))(k:aD H (t.ps.map av.d) vs):aZ H t.d (.ref a):=by
 rw[t.d_eq];exact aZ.node h k
theorem av.lt{s t:av}(h:s∈t.ps):s.dep<t.dep/\s.cnt<t.cnt:=by
 cases t with
 |n0 i=>exact nomatch h
 |n1 i a=>rw[FT.mp h];simp only[av.dep,av.cnt];omega
 |n2 i a b=>
  rcases F6.mp h with rfl | h
  ·simp only[av.dep,av.cnt];omega
  ·rw[FT.mp h];simp only[av.dep,av.cnt];omega
theorem av.plen(t:av):t.ps.length<=2:=by cases t<;>simp[av.ps]
theorem av.cnt1(t:av):1<=t.cnt:=by cases t<;>simp[av.cnt]
theorem av.dep1(t:av):1<=t.dep:=by cases t<;>simp[av.dep]
theorem av.cnt_eq(t:av):t.cnt=1+(t.ps.map av.cnt).sum:=by cases t<;>simp[av.cnt,av.ps]<;>omega
def i6(i:Int):List av->av
 | []=>.n0 i
 | [a]=>.n1 i a
 |a::b::_=>.n2 i a b
theorem vb(i:Int)(ds:List av):(i6 i ds).i=i:=by
 match ds with
 | []=>rfl
 | [a]=>rfl
 |a::b::_=>rfl
theorem nv(i:Int){ds:List av}(h:ds.length<=2):(i6 i ds).ps=ds:=by
 match ds,h with
 | [],_=>rfl
 | [a],_=>rfl
 | [a,b],_=>rfl
 |a::b::c::_,h=>simp at h
def Sub:List Nat->av->Option av
 | [],t=>some t
 |k::pl,t=>match t.ps[k]? with
  |some s=>Sub pl s
  |none=>none
theorem Sub.app{s t:av}{k:Nat}{r:av}:∀{pl:List Nat} {t:av},Sub pl t=some s->s.ps[k]?=some r->Sub (pl++[k]) t=some r
 | [],t,h,e=>by cases h;simp[Sub,e]
 |j::pl,t,h,e=>by
  rw[List.cons_append]
  unfold Sub at h ⊢
  cases hj:t.ps[j]? with
  |none=>rw[hj]at h;cases h
  |some u=>rw[hj]at h;exact Sub.app (t:=t) h e
theorem Sub.len{s:av}:∀{pl:List Nat} {t:av},Sub pl t=some s->pl.length+s.dep<=t.dep
 | [],t,h=>by cases h;simp
 |j::pl,t,h=>by
  unfold Sub at h
  cases hj:t.ps[j]? with
  |none=>rw[hj]at h;cases h
  |some u=>
   rw[hj]at h
   have:=Sub.len h
   have:=(av.lt (FV hj)).1
   simp;omega
def e8(f:av):List Nat->av->av
 | [],_=>f
 |k::pl,t=>match t.ps[k]? with
  |some s=>i6 t.i (t.ps.set k (e8 f pl s))
  |none=>t
theorem u_{t s u:av}{k:Nat}(h:t.ps[k]?=some s):(i6 t.i (t.ps.set k u)).cnt+s.cnt=t.cnt+u.cnt/\(i6 t.i (t.ps.set k u)).dep<=max t.dep (u.dep+1):=by
 cases t with
 |n0 i=>simp[av.ps]at h
 |n1 i a=>
  match k,h with
  |0,h=>cases h;simp only[av.ps,av.i,List.set_cons_zero,i6,av.cnt,av.dep];omega
  |k+1,h=>simp[av.ps]at h
 |n2 i a b=>
  match k,h with
  |0,h=>cases h;simp only[av.ps,av.i,List.set_cons_zero,i6,av.cnt,av.dep];omega
  |1,h=>cases h;simp only[av.ps,av.i,List.set_cons_zero,List.set_cons_succ,i6,av.cnt,av.dep];omega
  |k+2,h=>simp[av.ps]at h
theorem oA{f s:av}:∀{pl:List Nat} {t:av},Sub pl t=some s->(e8 f pl t).cnt<=t.cnt+f.cnt/\(e8 f pl t).dep<=t.dep+f.dep
 | [],t,h=>by simp[e8]
 |k::pl,t,h=>by
  unfold Sub at h
  unfold e8
  cases hj:t.ps[k]? with
  |none=>rw[hj]at h;cases h
  |some u=>
   rw[hj]at h
   obtain⟨h1,h2⟩:=oA (f:=f) h
   obtain⟨h3,h4⟩:=u_ (u:=e8 f pl u) hj
   have:=(av.lt (FV hj)).1
   show(i6 t.i (t.ps.set k (e8 f pl u))).cnt<=_/\(i6 t.i (t.ps.set k (e8 f pl u))).dep<=_
   omega
theorem uH:∀(t:av),lH t.d=t.cnt
 | .n0 i=>by simp only[av.d,lH,jc,av.cnt]
 | .n1 i a=>by simp only[av.d,lH,jc,av.cnt,uH a];omega
 | .n2 i a b=>by simp only[av.d,lH,jc,av.cnt,uH a,uH b];omega
theorem Gr.tre{rs:List (Nat×RV)}{k:Nat}{d:Dt}{nm:List Nat}{p:bS}{c:Int}(g:Gr rs d nm p c k):∃t:av,d=t.d/\t.dep<=k:=by
 induction g with
 | @cell n v e=>exact⟨.n0 n,rfl,Gc _⟩
 | @turn n v d p c k e g ih=>
  obtain⟨t,rfl,h⟩:=ih
  exact⟨.n1 n t,rfl,by simp only[av.dep];omega⟩
 | @pair n kd v d1 d2 p1 p2 p c1 c2 k1 k2 hk e g1 g2 m ih1 ih2=>
  obtain⟨t,rfl,h⟩:=ih1
  obtain⟨u,rfl,h'⟩:=ih2
  exact⟨.n2 n t u,rfl,by simp only[av.dep];omega⟩
theorem av.d_inj:∀{s t:av},s.d=t.d->s=t
 | .n0 i,.n0 j,h=>by simp only[av.d,Dt.tup.injEq,List.cons.injEq,Dt.int.injEq,and_true]at h;rw[h]
 | .n1 i a,.n1 j b,h=>by simp only[av.d,Dt.tup.injEq,List.cons.injEq,Dt.int.injEq,and_true]at h;rw[h.1,av.d_inj h.2]
 | .n2 i a b,.n2 j a' b',h=>by simp only[av.d,Dt.tup.injEq,List.cons.injEq,Dt.int.injEq,and_true]at h;rw[h.1,av.d_inj h.2.1,av.d_inj h.2.2]
 | .n0 i,.n1 j b,h=>by simp[av.d]at h
 | .n0 i,.n2 j a b,h=>by simp[av.d]at h
 | .n1 i b,.n0 j,h=>by simp[av.d]at h
 | .n1 i c,.n2 j a b,h=>by simp[av.d]at h
 | .n2 j a b,.n0 i,h=>by simp[av.d]at h
 | .n2 j a b,.n1 i c,h=>by simp[av.d]at h
def o8(pl:List Nat):List V:=pl.map fun(k:Nat)=>V.int (k:Int)
theorem uI{α:Type}(x:α)(xs:List α):hZ (x::xs) 0=some x:=show hZ (x::xs) ((0:Nat):Int)=some x from aV rfl
theorem pd{H:Hp}:∀{ds:List Dt} {xs:List V},aD H ds xs->∀{j:Nat} {x:V},xs[j]?=some x->∃d,ds[j]?=some d/\aZ H d x
 | [],_,h,j,x,e=>by unfold aD at h;subst h;simp at e
 |d::ds,xs,h,j,x,e=>by
  obtain⟨y,r,rfl,h1,h2⟩:=h.uncons
  match j,e with
  |0,e=>cases e;exact⟨d,rfl,h1⟩
  |j+1,e=>exact pd h2 e
theorem pq{H:Hp}{t:av}{vs:List V}{j:Nat}{x:V}(h:aD H (t.ps.map av.d) vs)(e:vs[j]?=some x):∃s,t.ps[j]?=some s/\aZ H s.d x:=by
 obtain⟨d,h1,h2⟩:=pd h e
 rw[FU]at h1
 obtain⟨s,hs,rfl⟩:=Gh.mp h1
 exact⟨s,hs,h2⟩
theorem parts_len{H:Hp}{t:av}{vs:List V}(h:aD H (t.ps.map av.d) vs):vs.length=t.ps.length:=by rw[h.length,FS]
theorem vN(x:V)(ys:List V):dz (x::ys) (some 1) none=ys:=by
 unfold dz
 rw[show(some 1:Option Int)=some ((1:Nat):Int) from rfl,HT.sIx_nat,HT.sIx_none,GJ (by simp)]
 exact List.take_of_length_le (by simp)
theorem qr(x:V)(ys:List V):¬ (HT.sIx (x::ys).length 0 (some 1)=0/\HT.sIx (x::ys).length (x::ys).length none=(x::ys).length):=by
 rw[show(some 1:Option Int)=some ((1:Nat):Int) from rfl,HT.sIx_nat,GJ (by simp)]
 exact fun h=>absurd h.1 (by decide)
def NL(H H':Hp):Prop:=∀b o,H b=some o->(∀xs,o≠.lst xs)->H' b=some o
theorem NL.of{H H':Hp}(s:aq H H'):NL H H':=fun b o h _=>s b o h
theorem NL.trans{H H1 H2:Hp}(a:NL H H1)(b:NL H1 H2):NL H H2:=fun c o h n=>b c o (a c o h n) n
theorem NL.put{H:Hp}{l:Addr}{xs:List V}{o:HO}(h:H l=some (.lst xs)):NL H (ap H l o):=fun b u hb n=>by
 rw[aj (fun e=>by rw[e,h]at hb;cases hb;exact n _ rfl)];exact hb
theorem NL.tup{H H':Hp}(a:NL H H'):bp H H':=fun b xs h=>a b _ h (fun _ e=>by cases e)
theorem NL.sqT{H H':Hp}{a:Addr}{xs:List V}(e:NL H H')(h:bq K H a xs):bq K H' a xs:=by
 rcases h with(h | ⟨o,h⟩) | h
 ·exact .inl (.inl (e _ _ h (fun _ e=>by cases e)))
 ·exact .inl (.inr ⟨o,e _ _ h (fun _ e=>by cases e)⟩)
 ·exact .inr h
structure PI where
 a:Addr
 v:V
 p:Addr
 s:av
 pl:List Nat
def PI.at(K:W.Frag)(H:Hp)(t:av)(x:PI):Prop:=H x.a=some (.tup [x.v,.ref x.p])/\aZ H x.s.d x.v/\bq K H x.p (o8 x.pl)/\Sub x.pl t=some x.s
theorem PI.at.up{H H':Hp}{t:av}{x:PI}(h:x.at K H t)(n:NL H H'):x.at K H' t:=⟨n.tup _ _ h.1,h.2.1.up n.tup _,n.sqT h.2.2.1,h.2.2.2⟩
def rF(K:W.Frag)(H:Hp)(t:av)(ps:List Addr):Prop:=∀p∈ps,∃pl s,bq K H p (o8 pl)/\Sub pl t=some s
theorem rF.up{H H':Hp}{t:av}{ps:List Addr}(h:rF K H t ps)(n:NL H H'):rF K H' t ps:=fun p hp=>by
 obtain⟨pl,s,h1,h2⟩:=h p hp
 exact⟨pl,s,n.sqT h1,h2⟩
def gG(xs:List PI):Nat:=(xs.map fun x=>x.s.cnt).sum
theorem my(xs ys:List PI):gG (xs++ys)=gG xs+gG ys:=by unfold gG;rw[F3,List.sum_append]
theorem rf(x:PI):gG [x]=x.s.cnt:=by unfold gG;simp
theorem mV:∀(xs:List PI),xs.length<=gG xs
 | []=>by simp[gG]
 |x::xs=>by have:=mV xs;have:=x.s.cnt1;unfold gG at *;simp;omega
theorem me(pl:List Nat):(o8 pl).length=pl.length:=by unfold o8;simp
theorem zG(pl:List Nat)(k:Nat):o8 pl++[V.int (k:Int)]=o8 (pl++[k]):=by unfold o8;simp
def BF(K:W.Frag)(H:Hp)(v:V)(t:av)(lf ll:Addr)(m:Nat)(σ:St)(H':Hp):Prop:=aq H H'/\(∃(xs:List PI) (ps:List Addr),H' ll=some (.lst (xs.map fun x=>V.ref x.a))/\(∀x∈xs,x.at K H' t)/\H' lf=some (.lst (ps.map V.ref))/\rF K H' t ps/\ps.length+gG xs<=t.cnt/\(ps=[]->xs≠[])/\m=gG xs)/\∃z1 z2 z3,σ=[some v,some (V.ref lf),some (V.ref ll),z1,z2,z3]
abbrev jv:Stmt:=h7 59
def lT(K:W.Frag):Sp:=fun vs H Q _=>∃(v:V) (t:av),vs=[v]/\aZ H t.d v/\t.cnt<=1000/\t.dep<=100/\∀l ps H',H' l=some (.lst (ps.map V.ref))->rF K H' t ps->ps≠[]->ps.length<=1000->aq H H'->Q (.ref l) H'
theorem rV:aI ["_law_tree","_law_found","_law_left","_law_here","_law_place","_law_k"] ["_law_tree"] (ao jv):=by walk_at "c"
theorem r_{f:Addr}{fd:FuncData}(F:d9 K "_law_places" "_law_places" jv f fd)(nb:NB mg):bb P w K mg base bL 1 f fd ["_law_tree"] (lT K):=by
 have sc:=rV
 walk_at "f"
 ·obtain⟨v,t,rfl,_⟩:=h;rfl
 ·obtain⟨v,t,rfl,ht,hc,hd,q⟩:=h
  refine⟨_,(af (ay (i:=1) sc.nd rfl (Or.inl rfl) (bf ae))
   (af (ay (i:=2) sc.nd rfl (Or.inl rfl) (bf (aa (aW (aa (pv 0) (aa (aW ae) ae))) ae)))
   (af (m8 PassesOwn.never (aB hJ (au aO rfl nb.len aR (aa (pv 2) ae)) ag (aK _)) (af (ld (mO PySem.F.plainAttrs_list PySem.F.slot_list_pop PySem.F.type_list_pop nS (pv 2)) (im (n:=2) rfl (bj (aF (i:=3) sc.nd rfl (Or.inl rfl)) (bj (aF (i:=4) sc.nd rfl (Or.inl rfl)) eM))))
   (af (bE (dm PySem.F.plainAttrs_list PySem.F.slot_list_append PySem.F.type_list_append b7 (pv 1) (aa (pv 4) ae)))
   (ah (bD PassesOwn.never rfl (zg rfl nb.reversed rfl nb.range (br (aa (au iU rfl nb.len aR (aa (pv 3) ae)) ae))) (aF (i:=5) sc.nd rfl (Or.inl rfl))
   (ah (bE (dm PySem.F.plainAttrs_list PySem.F.slot_list_append PySem.F.type_list_append b7 (pv 2) (aa (aW (aa (aC aN (pv 3) (pv 5) (fun _ _=>rfl)) (aa (am y_ (pv 4) (aW (aa (am kP (pv 5) ag) ae))) ae))) ae)))))))))
   (ah (aL (pv 1)))))),?_⟩
  walk_at "n"
  refine⟨Gd _,fun lf hlf=>h1 _ _ ?_⟩
  clear h1
  have s1:=ad (o:=.lst []) hlf
  have e1:ap H lf (.lst []) lf=some (.lst []):=ac
  generalize ap H lf (.lst [])=H1 at s1 e1 ⊢
  walk_at "n"
  refine⟨Gd _,fun p1 hp1=>⟨ak (by decide),fun p2 hp2=>⟨ak (by decide),fun ll hll=>h1 _ _ ?_⟩⟩⟩
  clear h1
  have sA:=ad (o:=.tup []) hp1
  have eA:ap H1 p1 (.tup []) p1=some (.tup []):=ac
  generalize ap H1 p1 (.tup [])=H2 at sA eA hp2 hll ⊢
  have sB:=ad (o:=.tup [v,V.ref p1]) hp2
  have eB:ap H2 p2 (.tup [v,V.ref p1]) p2=some (.tup [v,V.ref p1]):=ac
  generalize ap H2 p2 (.tup [v,V.ref p1])=H3 at sB eB hll ⊢
  have sC:=ad (o:=.lst [V.ref p2]) hll
  have eC:ap H3 ll (.lst [V.ref p2]) ll=some (.lst [V.ref p2]):=ac
  have hne:lf≠ll:=fun e=>by rw[<- e,sB _ _ (sA _ _ e1)]at hll;cases hll
  have s13:=sA.trans sB
  have hll0:H ll=none:=d_ (s1.trans s13) hll
  generalize ap H3 ll (.lst [V.ref p2])=H4 at sC eC ⊢
  have s14:=s13.trans sC
  have s04:=s1.trans s14
  walk_at "n"
  have hcp:gG [⟨p2,v,p1,t,[]⟩]=t.cnt:=rf _
  refine⟨BF K H v t lf ll,⟨_,s04,⟨[⟨p2,v,p1,t,[]⟩],[],eC,fun x hx=>?_,s14 _ _ e1,(fun p hp=>nomatch hp),?_,fun _=>by simp,rfl⟩,_,_,_,rfl⟩,?_⟩
  ·rw[FT.mp hx]
   exact⟨sC _ _ eB,ht.up (bp.of s04) _,bq.of (sC _ _ (sB _ _ eA)),rfl⟩
  ·rw[hcp];simp
  rintro m σ H' ⟨sm,⟨xs,ps,hl',hxs,hf',hps,hcnt,hne0,rfl⟩,z1,z2,z3,rfl⟩
  have hxl:=mV xs
  walk_at "wp"
  refine⟨_,aT.of hl',?_⟩
  rw[FS]
  rcases List.eq_nil_or_concat xs with rfl | ⟨ys,x,hyx⟩
  ·rw[if_neg (by simp)]
   refine h1 _ _ ?_
   walk_at "wp"
   have hpn:ps≠[]:=fun e=>hne0 e rfl
   exact q lf ps H' hf' hps hpn (by omega) sm
  rw[GM]at hyx
  subst hyx
  rw[if_pos (by simp)]
  refine⟨fun σ2 H2=>∃m',m'<gG (ys++[x])/\BF K H v t lf ll m' σ2 H2,fun σ' H' h=>h,?_⟩
  obtain⟨hxa,hxt,hxp,hxs'⟩:=hxs x (by simp)
  have lst1:((ys++[x]).map fun x=>V.ref x.a)[((ys++[x]).map fun x=>V.ref x.a).length-1]?=some (V.ref x.a):=by simp
  have lst2:((ys++[x]).map fun x=>V.ref x.a).dropLast=ys.map fun x=>V.ref x.a:=by rw[F3];simp
  have n2:NL H' (ap H' ll (.lst (ys.map fun x=>V.ref x.a))):=NL.put hl'
  have l2:ap H' ll (.lst (ys.map fun x=>V.ref x.a)) ll=some (.lst (ys.map fun x=>V.ref x.a)):=ac
  have f2:ap H' ll (.lst (ys.map fun x=>V.ref x.a)) lf=some (.lst (ps.map V.ref)):=by rw[aj hne];exact hf'
  have s2:aq H (ap H' ll (.lst (ys.map fun x=>V.ref x.a))):=aX sm hll0
  refine⟨.inl ⟨rfl,_,aT.of hl'⟩,_,hl',_,lst1,_,rfl,?_⟩
  rw[lst2]
  generalize ap H' ll (.lst (ys.map fun x=>V.ref x.a))=H2 at n2 l2 f2 s2 ⊢
  refine⟨_,bq.of (n2.tup _ _ hxa),rfl,_,_,rfl,_,_,rfl,rfl,.inl ⟨rfl,_,aT.of f2⟩,_,f2,by rw[FS];exact bw (by omega),?_⟩
  have n3:NL H2 (ap H2 lf (.lst (ps.map V.ref++[V.ref x.p]))):=NL.put f2
  have l3:ap H2 lf (.lst (ps.map V.ref++[V.ref x.p])) ll=some (.lst (ys.map fun x=>V.ref x.a)):=by rw[aj hne.symm];exact l2
  have f3:ap H2 lf (.lst (ps.map V.ref++[V.ref x.p])) lf=some (.lst ((ps++[x.p]).map V.ref)):=by rw[ac];simp
  have s3:aq H (ap H2 lf (.lst (ps.map V.ref++[V.ref x.p]))):=aX s2 hlf
  generalize ap H2 lf (.lst (ps.map V.ref++[V.ref x.p]))=H3 at n3 l3 f3 s3 ⊢
  have n13:=n2.trans n3
  obtain⟨a,vs,hva,hta,htr⟩:=av.val (hxt.up n13.tup _)
  have hvl:=parts_len htr
  have hpl2:=x.s.plen
  have hsl:=Sub.len hxs'
  refine⟨a,hva,_,bq.of hta,by decide,by rw[F2];omega,by rw[F2];omega,?_⟩
  have hcx:gG (ys++[x])=gG ys+x.s.cnt:=by rw[my,rf]
  have hcs:=x.s.cnt_eq
  rw[show(((V.int x.s.i::vs).length:Int)-1).toNat=vs.length by rw[F2];omega,show(1+(vs.length:Int)-1)=(vs.length:Int) by omega]
  refine yf (hi:=(vs.length:Int)) (n:=vs.length) (fun j σ H'=>aq H H'/\NL H3 H'/\(∃zs:List PI,H' ll=some (.lst ((ys++zs).map fun x=>V.ref x.a))/\(∀z∈zs,z.at K H' t)/\zs.map PI.s=(x.s.ps.drop (vs.length-j)).reverse/\zs.length<=j)/\H' lf=some (.lst ((ps++[x.p]).map V.ref))/\∃z3,σ=[some v,some (V.ref lf),some (V.ref ll),some x.v,some (V.ref x.p),z3]) ⟨s3,fun b o h _=>h,⟨[],by rw[Gq];exact l3,(fun z hz=>nomatch hz),by rw[hvl];simp,by simp⟩,f3,_,rfl⟩ ?_ ?_
  ·rintro j σ H4 hj ⟨sm4,n4,⟨zs,l4,hzs,hmap,hzl⟩,f4,z3,rfl⟩
   rw[hva]
   walk_at "wp"
   obtain⟨k,hk⟩:∃k,vs.length=k+j+1:=⟨vs.length-j-1,by omega⟩
   have hkv:vs[k]?=some vs[k]:=FP (by omega)
   obtain⟨s',hs',ht'⟩:=pq (htr.up n4.tup _) hkv
   have hk1:((vs.length:Int)-(j:Int)-1)=(k:Int):=by omega
   have hat:hZ (V.int x.s.i::vs) ((vs.length:Int)-(j:Int))=some vs[k]:=by
    rw[show(vs.length:Int)-(j:Int)=((k+1:Nat):Int) by omega]
    exact aV (by rw[Gj];exact hkv)
   rw[hk1]
   refine⟨.inl ⟨rfl,_,aT.of l4⟩,_,bq.of (n4.tup _ _ hta),_,hat,ak (by decide),fun p1 hp1=>?_⟩
   have sA:=ad (o:=.tup [V.int (k:Int)]) hp1
   have eA:ap H4 p1 (.tup [V.int (k:Int)]) p1=some (.tup [V.int (k:Int)]):=ac
   generalize ap H4 p1 (.tup [V.int (k:Int)])=H5 at sA eA ⊢
   refine⟨_,sA.sqT (n4.sqT (n13.sqT hxp)),_,bq.of eA,by rw[me];exact ak (by simp;omega),fun pp H6 hpp sB=>⟨ak (by decide),fun p2 hp2=>?_⟩⟩
   rw[zG]at hpp
   have sC:=ad (o:=.tup [vs[k],V.ref pp]) hp2
   have eC:ap H6 p2 (.tup [vs[k],V.ref pp]) p2=some (.tup [vs[k],V.ref pp]):=ac
   generalize ap H6 p2 (.tup [vs[k],V.ref pp])=H7 at sC eC ⊢
   have s47:=(sA.trans sB).trans sC
   have l7:=s47 _ _ l4
   have n8:NL H7 (ap H7 ll (.lst (((ys++zs).map fun x=>V.ref x.a)++[V.ref p2]))):=NL.put l7
   have n48:=(NL.of s47).trans n8
   have hys:(ys++zs).length<=1000+j:=by
    rw[hcx]at hcnt hxl
    have:=mV ys
    simp;omega
   refine⟨_,l7,by rw[FS];exact bw (by omega),aX (sm4.trans s47) hll0,n4.trans n48,⟨zs++[⟨p2,vs[k],pp,s',x.pl++[k]⟩],by rw[ac];simp,fun z hz=>?_,?_,by simp;omega⟩,by rw[aj hne];exact s47 _ _ f4⟩
   ·rcases F4.mp hz with h | h
    ·exact(hzs z h).up n48
    ·rw[FT.mp h]
     exact⟨n8.tup _ _ eC,ht'.up n48.tup _,n8.sqT (sC.sqT hpp),Sub.app (t:=t) hxs' hs'⟩
   ·have e1:vs.length-(j+1)=k:=by omega
    have e2:vs.length-j=k+1:=by omega
    rw[e1,nO hs',Gm,F3,hmap,e2]
    rfl
  ·rintro σ H4 ⟨sm4,n4,⟨zs,l4,hzs,hmap,hzl⟩,f4,z3,rfl⟩
   have hcz:gG zs+1=x.s.cnt:=by
    have:gG zs=((zs.map PI.s).map av.cnt).sum:=by unfold gG;rw[F5];rfl
    rw[this,hmap,Nat.sub_self,GL,List.map_reverse,List.sum_reverse]
    omega
   refine⟨gG (ys++zs),by rw[my,hcx];omega,sm4,⟨ys++zs,ps++[x.p],l4,fun z hz=>?_,f4,fun p hp=>?_,?_,fun e=>absurd e (by simp),rfl⟩,_,_,_,rfl⟩
   ·rcases F4.mp hz with h | h
    ·exact(hxs z (by simp[h])).up (n13.trans n4)
    ·exact hzs z h
   ·rcases F4.mp hp with h | h
    ·exact(hps.up (n13.trans n4)) p h
    ·rw[FT.mp h]
     exact⟨x.pl,x.s,(n13.trans n4).sqT hxp,hxs'⟩
   ·rw[my,Gb]
    rw[hcx]at hcnt
    simp only[List.length_singleton]
    omega
abbrev ud:Stmt:=h7 60
def vh(K:W.Frag):Sp:=fun vs H Q _=>∃(v:V) (p:Addr) (t s:av) (pl:List Nat),vs=[v,.ref p]/\aZ H t.d v/\bq K H p (o8 pl)/\Sub pl t=some s/\∀u,aZ H s.d u->Q u H
theorem zj:aI ["_law_tree","_law_place","_law_k"] ["_law_tree","_law_place"] (ao ud):=by walk_at "c"
theorem sj{H:Hp}:∀{ds:List Dt} {xs:List V},aD H ds xs->∀{j:Nat} {d:Dt},ds[j]?=some d->∃x,xs[j]?=some x/\aZ H d x
 | [],_,h,j,x,e=>by simp at e
 |d::ds,xs,h,j,x,e=>by
  obtain⟨y,r,rfl,h1,h2⟩:=h.uncons
  match j,e with
  |0,e=>cases e;exact⟨y,rfl,h1⟩
  |j+1,e=>exact sj h2 e
theorem q_{H:Hp}{t s:av}{vs:List V}{j:Nat}(h:aD H (t.ps.map av.d) vs)(e:t.ps[j]?=some s):∃x,vs[j]?=some x/\aZ H s.d x:=sj h (by rw[FU,e];rfl)
theorem zb{pl:List Nat}{j:Nat}{x:V}(h:(o8 pl)[j]?=some x):∃k,pl[j]?=some k/\x=V.int (k:Int):=by
 unfold o8 at h
 rw[FU]at h
 obtain⟨k,hk,rfl⟩:=Gh.mp h
 exact⟨k,hk,rfl⟩
theorem y3{f:Addr}{fd:FuncData}(F:d9 K "_law_at" "_law_at" ud f fd)(nb:NB mg):bb P w K mg base bL 1 f fd ["_law_tree","_law_place"] (vh K):=by
 have sc:=zj
 walk_at "f"
 ·obtain⟨v,p,t,s,pl,rfl,_⟩:=h;rfl
 ·obtain⟨v,p,t,s0,pl,rfl,ht,hp,hs,q⟩:=h
  refine⟨_,(af (bD PassesOwn.never rfl (ul (pv 1)) (aF (i:=2) sc.nd rfl (Or.inl rfl))
   (ah (ay (i:=0) sc.nd rfl (Or.inl rfl) (aC aN (pv 0) (am bt ag (pv 2)) (fun _ _=>rfl)))))
   (ah (aL (pv 0)))),?_⟩
  walk_at "n"
  refine⟨⟨_,hp⟩,?_⟩
  refine mw (xs:=o8 pl) (fun j σ H'=>H'=H/\∃u s1 z,aZ H s1.d u/\Sub (pl.take j) t=some s1/\Sub (pl.drop j) s1=some s0/\σ=[some u,some (V.ref p),z]) ⟨rfl,v,t,_,ht,by simp[Sub],hs,rfl⟩ ?_ ?_ ?_
  ·rintro j σ H' _ ⟨rfl,_⟩
   exact hp
  ·rintro j x σ H' hx ⟨rfl,u,s1,z,hu,e1,e2,rfl⟩
   obtain⟨k,hk,rfl⟩:=zb hx
   rw[nO hk]at e2
   unfold Sub at e2
   cases hj:s1.ps[k]? with
   |none=>rw[hj]at e2;cases e2
   |some r=>
    rw[hj]at e2
    obtain⟨a,vs,rfl,hta,htr⟩:=av.val hu
    obtain⟨y,hy,hty⟩:=q_ htr hj
    walk_at "wp"
    refine⟨_,bq.of hta,y,?_,y,r,hty,?_,e2,rfl⟩
    ·rw[show(1+(k:Int))=((k+1:Nat):Int) by omega]
     exact aV (by rw[Gj];exact hy)
    ·rw[List.take_succ,hk]
     exact Sub.app (t:=t) e1 hj
  ·rintro σ H' ⟨rfl,u,s1,z,hu,e1,e2,rfl⟩
   refine h1 _ _ ?_
   walk_at "wp"
   rw[me,List.drop_length]at e2
   cases e2
   exact q u hu
abbrev nB:Stmt:=h7 61
def kO(K:W.Frag)(n:Nat):Sp:=fun vs H Q _=>∃(v fv:V) (p:Addr) (t s fr:av) (pl:List Nat),vs=[v,.ref p,fv]/\aZ H t.d v/\aZ H fr.d fv/\bq K H p (o8 pl)/\Sub pl t=some s/\pl.length<n/\∀u H',aZ H' (e8 fr pl t).d u->aq H H'->Q u H'
theorem oz:aI ["_law_tree","_law_place","_law_fresh","_law_k"] ["_law_tree","_law_place","_law_fresh"] (ao nB):=by walk_at "c"
theorem A9{k:Nat}(xs:List V)(h:k<=xs.length):dz xs none (some ((k:Nat):Int))=xs.take k:=by
 unfold dz
 rw[HT.sIx_nat,HT.sIx_none,GJ h]
 simp
theorem xY{k:Nat}(xs:List V)(h:k<=xs.length):dz xs (some ((k:Nat):Int)) none=xs.drop k:=by
 unfold dz
 rw[HT.sIx_nat,HT.sIx_none,GJ h]
 exact List.take_of_length_le (by simp)
theorem oJ{a:Int}{k:Nat}(xs:List V)(e:a=(k:Int))(h:k<=xs.length):dz xs (some a) none=xs.drop k:=by rw[e];exact xY xs h
theorem qo{a:Int}{k:Nat}(xs:List V)(e:a=(k:Int))(h:k<=xs.length):dz xs none (some a)=xs.take k:=by rw[e];exact A9 xs h
theorem oV{H:Hp}{d:Dt}{x:V}(hx:aZ H d x):∀{ds:List Dt} {xs:List V} {j:Nat},aD H ds xs->j<ds.length->aD H (ds.set j d) (xs.take j++x::xs.drop (j+1))
 | [],_,j,h,hj=>absurd hj (by simp)
 |e::ds,xs,0,h,hj=>by
  obtain⟨y,r,rfl,h1,h2⟩:=h.uncons
  exact aD.cons hx h2
 |e::ds,xs,j+1,h,hj=>by
  obtain⟨y,r,rfl,h1,h2⟩:=h.uncons
  exact aD.cons h1 (oV hx h2 (by simpa using hj))
theorem pk{f:Addr}{fd:FuncData}(F:d9 K "_law_with" "_law_with" nB f fd)(nb:NB mg)(hm:mg "_law_with"=some (.ref f))(hk:W.keepIn K (.ref f)=true)(hb:dq K fd ["_law_tree","_law_place","_law_fresh"] []):∀n,n<=61->bb P w K mg base bL (n+1) f fd ["_law_tree","_law_place","_law_fresh"] (kO K n)
 |0,_=>by
  refine F.ok oz (fun vs H Q E h=>?_) (fun cdv A outer s H vs Q E hr h=>?_)
  ·obtain⟨v,fv,p,t,s,fr,pl,rfl,_⟩:=h;rfl
  ·obtain⟨v,fv,p,t,s,fr,pl,rfl,_,_,_,_,h,_⟩:=h
   exact absurd h (by omega)
 |n+1,hn=>by
  have sc:=oz
  have zSa:fP P w K mg base bL (n+1) "_law_with" ["_law_tree","_law_place","_law_fresh"] (kO K n):=⟨f,fd,pk F nb hm hk hb n (by omega),hm,hk,hb⟩
  walk_at "f"
  ·obtain⟨v,fv,p,t,s,fr,pl,rfl,_⟩:=h;rfl
  ·obtain⟨v,fv,p,t,s0,fr,pl,rfl,ht,hf,hp,hs,hl,q⟩:=h
   have hu:=hr.units
   refine⟨_,(af (bd (aB (x8 hu) (pv 1) (aW ae) (aK _))
   (ah (aL (pv 2)))
   aM)
   (af (ay (i:=3) sc.nd rfl (Or.inl rfl) (am bt ag (aC aN (pv 1) ag (fun _ _=>rfl))))
   (ah (aL (am bP (am bP (bH fz (pv 0) bV (bT (pv 3))) (aW (aa (aP zSa (hr.mono (by omega)) rfl a_ (aa (aC aN (pv 0) (pv 3) (fun _ _=>rfl)) (aa (bH kE (pv 1) (bT ag) bV) (aa (pv 2) ae)))) ae))) (bH fz (pv 0) (bT (am bt (pv 3) ag)) bV)))))),?_⟩
   walk_at "n"
   refine⟨Gd _,fun p0 hp0=>?_⟩
   have s1:=ad (o:=.tup []) hp0
   have e1:ap H p0 (.tup []) p0=some (.tup []):=ac
   generalize ap H p0 (.tup [])=H1 at s1 e1 ⊢
   have hfl:(o8 pl).all oK=true:=by unfold o8;rw[List.all_map,GB];intro x _;rfl
   refine⟨_,s1.sqT hp,_,bq.of e1,hfl,rfl,?_⟩
   match pl,hs,hl,hp,q with
   | [],hs,hl,hp,q=>
    rw[if_pos (by rfl)]
    exact q _ _ (hf.up (bp.of s1) _) s1
   |k::pl,hs,hl,hp,q=>
    rw[if_neg (by intro h;cases h)]
    refine h1 _ _ ?_
    clear h1
    unfold Sub at hs
    cases hj:t.ps[k]? with
    |none=>rw[hj]at hs;cases hs
    |some r=>
    rw[hj]at hs
    have hkl:k<t.ps.length:=(FQ.mp hj).1
    obtain⟨a,vs,rfl,hta,htr⟩:=av.val ht
    have hvl:=parts_len htr
    have hps:=t.plen
    have hk1:(1+(k:Int))=((k+1:Nat):Int):=by omega
    walk_at "n"
    refine⟨_,s1.sqT hp,V.int (k:Int),uI _ _,_,rfl,h1 _ _ ?_⟩
    clear h1
    rw[hk1]
    walk_at "wp"
    refine⟨_,s1 _ _ hta,fun pa H2 hpa s2=>?_⟩
    rw[qo _ rfl (by simp;omega)]at hpa
    obtain⟨y,hy,hty⟩:=q_ htr hj
    have s02:=s1.trans s2
    refine⟨_,bq.of (s02 _ _ hta),y,aV (by rw[Gj];exact hy),_,s02.sqT hp,?_⟩
    have hsub:dz (o8 (k::pl)) (some 1) none=o8 pl:=by rw[oJ _ (show(1:Int)=((1:Nat):Int) from rfl) (by simp[me])];rfl
    rw[hsub]
    refine⟨fun h=>?_,fun p1 hp1=>?_⟩
    ·rw[show(some 1:Option Int)=some ((1:Nat):Int) from rfl,HT.sIx_nat,GJ (by rw[me];simp)]at h
     exact absurd h.1 (by decide)
    have s3:=ad (o:=.tup (o8 pl)) hp1
    have e3:ap H2 p1 (.tup (o8 pl)) p1=some (.tup (o8 pl)):=ac
    generalize ap H2 p1 (.tup (o8 pl))=H3 at s3 e3 ⊢
    have s03:=s02.trans s3
    refine⟨y,fv,p1,r,s0,fr,pl,rfl,hty.up (bp.of s03) _,hf.up (bp.of s03) _,bq.of e3,hs,by simp at hl;omega,fun u H4 hu4 s4=>⟨ak (by decide),fun p2 hp2=>?_⟩⟩
    have s5:=ad (o:=.tup [u]) hp2
    have e5:ap H4 p2 (.tup [u]) p2=some (.tup [u]):=ac
    generalize ap H4 p2 (.tup [u])=H5 at s5 e5 ⊢
    have s45:=s4.trans s5
    have s05:=s03.trans s45
    have htk:(V.int t.i::vs).take (k+1)=V.int t.i::vs.take k:=rfl
    refine dc ((s3.trans s45) _ _ hpa) e5 (by rw[htk];simp) (by rw[htk];simp;omega) fun p3 H6 hp3 s6=>?_
    have s06:=s05.trans s6
    refine⟨_,s06 _ _ hta,fun p4 H7 hp4 s7=>?_⟩
    rw[oJ (k:=k+2) _ (by omega) (by simp;omega)]at hp4
    refine dc (s7 _ _ hp3) hp4 (by rw[htk];simp) (by rw[htk];simp;omega) fun p5 H8 hp5 s8=>?_
    have s48:=(s5.trans s6).trans (s7.trans s8)
    have s08:=s06.trans (s7.trans s8)
    have hpe:e8 fr (k::pl) t=i6 t.i (t.ps.set k (e8 fr pl r)):=by rw[e8,hj]
    refine q (.ref p5) H8 ?_ s08
    rw[hpe]
    have hlen:(t.ps.set k (e8 fr pl r)).length<=2:=by rw[GF];exact hps
    refine av.of (vs:=vs.take k++u::vs.drop (k+1)) ?_ ?_
    ·rw[vb,hp5,htk]
     simp
    ·rw[nv _ hlen,List.map_set]
     exact oV (hu4.up (bp.of s48) _) (htr.up (bp.of s08) _) (by rw[FS];exact hkl)
theorem l9(c:Int){n:Nat}(h:0<n):∃j,j<n/\c%(n:Int)=(j:Int):=by
 have h1:=GG c (b:=(n:Int)) (by omega)
 have h2:=GH c (b:=(n:Int)) (by omega)
 exact⟨(c%(n:Int)).toNat,by omega,by omega⟩
theorem Sub.cnt{s:av}:∀{pl:List Nat} {t:av},Sub pl t=some s->s.cnt<=t.cnt
 | [],t,h=>by cases h;exact Gc _
 |j::pl,t,h=>by
  unfold Sub at h
  cases hj:t.ps[j]? with
  |none=>rw[hj]at h;cases h
  |some u=>
   rw[hj]at h
   have:=Sub.cnt h
   have:=(av.lt (FV hj)).2
   omega
def CJ(ts:List av)(q:Int)(s f:av):Prop:=(f∈ts/\q=5)\/(f.i=s.i/\f.ps=s.ps.reverse/\q=4)\/(q<4/\f.cnt<=s.cnt+1/\f.dep<=s.dep+1)
structure nV(ts:List av)(q:Int)(s:av)(k:Int)(H:Hp)(f:av)(u:V)(H':Hp):Prop where
 sm:aq H H'
 tr:aZ H' f.d u
 rl:(q<k/\CJ ts q s f)\/(k<=q/\f=s)
theorem nV.skip{ts:List av}{q:Int}{s:av}{k:Int}{H:Hp}{f:av}{u:V}{H':Hp}(h:nV ts q s k H f u H')(hq:¬ q=k):nV ts q s (k+1) H f u H':=⟨h.sm,h.tr,by
 rcases h.rl with⟨h1,h2⟩ | ⟨h1,h2⟩
 ·exact .inl ⟨by omega,h2⟩
 ·exact .inr ⟨by omega,h2⟩⟩
theorem nV.here{ts:List av}{q:Int}{s:av}{k:Int}{H:Hp}{f:av}{u:V}{H':Hp}(h:nV ts q s k H f u H')(hq:q=k):aq H H'/\aZ H' s.d u/\f=s:=by
 rcases h.rl with⟨h1,h2⟩ | ⟨h1,h2⟩
 ·omega
 ·rw[h2]at h;exact⟨h.sm,h.tr,h2⟩
theorem nV.did{ts:List av}{q:Int}{s:av}{k:Int}{H:Hp}{f:av}{u:V}{H':Hp}(sm:aq H H')(tr:aZ H' f.d u)(hq:q=k)(h:CJ ts q s f):nV ts q s (k+1) H f u H':=⟨sm,tr,.inl ⟨by omega,h⟩⟩
theorem xu:BJ 10 58:=⟨by decide,by decide,by decide⟩
theorem x_(xs:List V)(h:xs≠[]):dz xs none (some (-1))=xs.take (xs.length-1):=by
 have hl:0<xs.length:=by cases xs with | nil=>exact absurd rfl h | cons=>simp
 unfold dz
 have:HT.sIx xs.length xs.length (some (-1))=xs.length-1:=by
  show(if(-1:Int)<0 then((-1:Int)+(xs.length:Int)).toNat else min (-1:Int).toNat xs.length)=_
  rw[if_pos (by decide)]
  omega
 rw[this,HT.sIx_none]
 simp
theorem jJ{H:Hp}{p:Addr}{i:Int}{ds:List av}{ws:List V}(hl:ds.length<=2)(h:H p=some (.tup (V.int i::ws)))(k:aD H (ds.map av.d) ws):aZ H (i6 i ds).d (.ref p):=av.of (by rw[vb];exact h) (by rw[nv _ hl];exact k)
theorem jS(i:Int)(t:av):(i6 i t.ps).cnt=t.cnt/\(i6 i t.ps).dep=t.dep:=by cases t<;>exact⟨rfl,rfl⟩
theorem kg(t:av)(n:Nat):(i6 t.i (t.ps.take n)).cnt<=t.cnt/\(i6 t.i (t.ps.take n)).dep<=t.dep:=by
 cases t with
 |n0 i=>simp[av.ps,av.i,i6]
 |n1 i a=>match n with
  |0=>simp only[av.ps,av.i,GK,i6,av.cnt,av.dep];omega
  |n+1=>simp[av.ps,av.i,i6]
 |n2 i a b=>match n with
  |0=>simp only[av.ps,av.i,GK,i6,av.cnt,av.dep];omega
  |1=>simp only[av.ps,av.i,List.take_succ_cons,GK,i6,av.cnt,av.dep];omega
  |n+2=>simp[av.ps,av.i,i6]
theorem ml(t:av)(i:Int)(h:t.ps.length<=1):(i6 t.i (t.ps++[.n0 i])).cnt=t.cnt+1/\(i6 t.i (t.ps++[.n0 i])).dep<=t.dep+1:=by
 cases t with
 |n0 j=>simp[av.ps,av.i,i6,av.cnt,av.dep]
 |n1 j a=>have:=a.dep1;show a.cnt+1+1=a.cnt+1+1/\max a.dep 1+1<=a.dep+1+1;omega
 |n2 j a b=>simp[av.ps]at h
theorem nF{H:Hp}{n:Nat}:∀{ds:List av} {xs:List V},aD H (ds.map av.d) xs->aD H ((ds.take n).map av.d) (xs.take n):=by
 intro ds xs h
 induction ds generalizing xs n with
 |nil=>rw[List.map_nil]at h;unfold aD at h;subst h;simpa using aD.nil
 |cons d ds ih=>
  obtain⟨x,r,rfl,h1,h2⟩:=h.uncons
  match n with
  |0=>exact aD.nil
  |n+1=>exact aD.cons h1 (ih h2)
theorem pF{H:Hp}:∀{ds:List Dt} {xs:List V},aD H ds xs->aD H ds.reverse xs.reverse
 | [],_,h=>by unfold aD at h;subst h;exact aD.nil
 |d::ds,xs,h=>by
  obtain⟨x,r,rfl,h1,h2⟩:=h.uncons
  rw[Gm,Gm]
  exact aD.app (pF h2) (aD.cons h1 aD.nil)
abbrev jj:Stmt:=h7 62
def r9(H:Hp)(ls:Addr)(as:List Addr)(xs:List SI)(ts:List av):Prop:=H ls=some (.lst (as.map V.ref))/\bu H as xs/\xs≠[]/\xs.length<=100/\∀x∈xs,∃t∈ts,x.d=t.d
theorem r9.up{H H':Hp}{ls:Addr}{as:List Addr}{xs:List SI}{ts:List av}(h:r9 H ls as xs ts)(s:aq H H'):r9 H' ls as xs ts:=⟨s _ _ h.1,h.2.1.up s,h.2.2⟩
def By(ts:List av)(t t':av)(q:Int):Prop:=∃pl s f,Sub pl t=some s/\t'=e8 f pl t/\(CJ ts q s f\/(f=s/\q=6))
def lP(K:W.Frag):Sp:=fun vs H Q _=>∃(v:V) (c:Int) (lr ls:Addr) (t:av) (ws:List V) (as:List Addr) (xs:List SI) (ts:List av),vs=[v,.int c,.ref lr,.ref ls]/\aZ H t.d v/\t.cnt<=1000/\t.dep<=60/\H lr=some (.lst ws)/\ws≠[]/\ws.length<=100/\r9 H ls as xs ts/\∀t' u H',By ts t t' (c/64%7)->aZ H' t'.d u->aq H H'->Q u H'
theorem rq:aI ["_law_tree","_law_cell_here","_law_rules","_law_stock","_law_places_here","_law_place","_law_here","_law_rest","_law_more","_law_leaf"] ["_law_tree","_law_cell_here","_law_rules","_law_stock"] (ao jj):=by walk_at "c"
theorem rX{f:Addr}{fd:FuncData}(F:d9 K "_law_spoilt" "_law_spoilt" jj f fd)(nb:NB mg)(zAb:fP P w K mg base bL 1 "_law_places" ["_law_tree"] (lT K))(c_l_at:fP P w K mg base bL 1 "_law_at" ["_law_tree","_law_place"] (vh K))(zSa:fP P w K mg base bL 62 "_law_with" ["_law_tree","_law_place","_law_fresh"] (kO K 61)):bb P w K mg base bL 63 f fd ["_law_tree","_law_cell_here","_law_rules","_law_stock"] (lP K):=by
 have sc:=rq
 walk_at "f"
 ·obtain⟨v,c,lr,ls,t,ws,as,xs,ts,rfl,_⟩:=h;rfl
 ·obtain⟨v,c,lr,ls,t,ws,as,xs,ts,rfl,ht,hc,hd,hlr,hw0,hwl,hst,q⟩:=h
  refine⟨_,(af (ay (i:=4) sc.nd rfl (Or.inl rfl) (aP zAb (hr.mono (by decide)) rfl a_ (aa (pv 0) ae)))
   (af (ay (i:=5) sc.nd rfl (Or.inl rfl) (aC bc (pv 4) (am aQ (pv 1) (au aO rfl nb.len aR (aa (pv 4) ae))) (fun _ _=>rfl)))
   (af (ay (i:=6) sc.nd rfl (Or.inl rfl) (aP c_l_at (hr.mono (by decide)) rfl a_ (aa (pv 0) (aa (pv 5) ae))))
   (af (ay (i:=7) sc.nd rfl (Or.inl rfl) (am aU (pv 1) ag))
   (af (ay (i:=8) sc.nd rfl (Or.inl rfl) (am aU (pv 7) ag))
   (af (ay (i:=9) sc.nd rfl (Or.inl rfl) (aW (aa (am aQ (pv 8) (au aO rfl nb.len aR (aa (pv 2) ae))) ae)))
   (af (bd (aB dB (am aQ (pv 7) ag) ag (aK _))
   (ah (ay (i:=6) sc.nd rfl (Or.inl rfl) (am bP (aW (aa (aC aN (aW (aa (rK mQ ag) (aa (au aO rfl nb.len aR (aa (pv 2) ae)) (aa (am bt (au aO rfl nb.len aR (aa (pv 2) ae)) (am aQ (pv 8) (am xF ag ag))) (aa (am kP (rK mQ ag) (am aQ (pv 8) (am xF ag ag))) ae))))) (am aQ (pv 8) ag) (fun _ _=>rfl)) ae)) (bH fz (pv 6) (bT ag) bV))))
   aM)
   (af (bd (aB dB (am aQ (pv 7) ag) ag (aK _))
   (ah (ay (i:=6) sc.nd rfl (Or.inl rfl) (am bP (pv 9) (bH fz (pv 6) (bT ag) bV))))
   aM)
   (af (bd (aB dB (am aQ (pv 7) ag) ag (aK _))
   (ah (ay (i:=6) sc.nd rfl (Or.inl rfl) (rD (aB hJ (au iU rfl nb.len aR (aa (pv 6) ae)) ag (aK _)) (bH fz (pv 6) bV (bT (rK mQ ag))) (am bP (pv 6) (aW (aa (pv 9) ae))))))
   aM)
   (af (bd (aB dB (am aQ (pv 7) ag) ag (aK _))
   (ah (ay (i:=6) sc.nd rfl (Or.inl rfl) (rD (aB nM (au iU rfl nb.len aR (aa (pv 6) ae)) ag (aK _)) (am bP (pv 6) (aW (aa (pv 9) ae))) (bH fz (pv 6) bV (bT ag)))))
   aM)
   (af (bd (aB dB (am aQ (pv 7) ag) ag (aK _))
   (ah (ay (i:=6) sc.nd rfl (Or.inl rfl) (am bP (bH fz (pv 6) bV (bT ag)) (dI i9 rfl nb.tuple nh (aa (m9 rfl (bH fz (pv 6) (bT ag) bV) rfl nb.list rfl nb.reversed) ae)))))
   aM)
   (af (bd (aB dB (am aQ (pv 7) ag) ag (aK _))
   (ah (ay (i:=6) sc.nd rfl (Or.inl rfl) (aC aN (aC bc (pv 3) (am aQ (pv 8) (au aO rfl nb.len aR (aa (pv 3) ae))) (fun _ _=>rfl)) ag (fun _ _=>rfl))))
   aM)
   (ah (aL (aP zSa (hr.mono (by decide)) rfl a_ (aa (pv 0) (aa (pv 5) (aa (pv 6) ae)))))))))))))))))),?_⟩
  walk_at "n"
  refine⟨v,t,rfl,ht,hc,by omega,fun l ps H1 hl hps hp0 hpl s1=>h1 _ _ ?_⟩
  walk_at "nc"
  obtain⟨jp,hjp,ejp⟩:=l9 c (n:=ps.length) (by cases ps with | nil=>exact absurd rfl hp0 | cons=>simp)
  have hgp:ps[jp]?=some ps[jp]:=FP hjp
  refine⟨_,aT.of hl,by rw[FS];omega,_,aT.of hl,V.ref ps[jp],?_,h1 _ _ ?_⟩
  ·rw[FS,ejp]
   exact aV (by rw[FU,hgp];rfl)
  clear h1
  obtain⟨pl,s0,hpp,hsub⟩:=hps _ (FZ hjp)
  walk_at "n"
  refine⟨v,ps[jp],t,s0,pl,rfl,ht.up (bp.of s1) _,hpp,hsub,fun u hu=>h1 _ _ ?_⟩
  walk_at "nc"
  refine h1 _ _ ?_
  walk_at "nc"
  refine h1 _ _ ?_
  clear h1
  have hws:0<ws.length:=by cases ws with | nil=>exact absurd rfl hw0 | cons=>simp
  obtain⟨jw,hjw,ejw⟩:=l9 (c/64/7) hws
  walk_at "n"
  refine⟨_,aT.of (s1 _ _ hlr),by omega,ak (by decide),fun lf hlf=>h1 _ _ ?_⟩
  clear h1
  rw[ejw]
  have s2:=ad (o:=.tup [V.int (jw:Int)]) hlf
  have e2:ap H1 lf (.tup [V.int (jw:Int)]) lf=some (.tup [V.int (jw:Int)]):=ac
  generalize ap H1 lf (.tup [V.int (jw:Int)])=H2 at s2 e2 ⊢
  have s02:=s1.trans s2
  obtain⟨q7,hq7⟩:∃q7,c/64%7=q7:=⟨_,rfl⟩
  rw[hq7]at q
  have hq0:0<=q7/\q7<7:=by omega
  have hleaf:∀H',aq H2 H'->aZ H' (av.n0 (jw:Int)).d (.ref lf):=fun H' s=>av.of (vs:=[]) (s _ _ e2) aD.nil
  have hsd:=Sub.len hsub
  have hs0c:s0.cnt<=t.cnt:=Sub.cnt hsub
  have hs0p:=s0.plen
  have pp0:nV ts q7 s0 0 H2 s0 u H2:=⟨aq.refl _,hu.up (bp.of s2) _,.inr ⟨hq0.1,rfl⟩⟩
  walk_at "n"
  rw[hq7]
  suffices nx:∀f1 u1 G1,nV ts q7 s0 1 H2 f1 u1 G1->N1 [some v,some (V.int c),some (V.ref lr),some (V.ref ls),some (V.ref l),some (V.ref ps[jp]),some u1,some (V.int (c/64)),some (V.int (c/64/7)),some (V.ref lf)] G1 by
   refine cU (fun hq=>?_) fun hq=>nx _ _ _ (pp0.skip hq)
   obtain⟨sm,hu',_⟩:=pp0.here hq
   obtain⟨a,vs,rfl,hta,htr⟩:=av.val hu'
   have hvl:=parts_len htr
   have s0m:=s02.trans sm
   obtain⟨j4,hj4,ej4⟩:=l9 (c/64/7) (n:=4) (by decide)
   refine⟨_,aT.of (s0m _ _ hlr),_,aT.of (s0m _ _ hlr),xu,by decide,xu,by decide,ak (by decide),fun p1 hp1=>?_⟩
   obtain⟨xs4,hx4⟩:∃xs4:List Int,[V.int (-1),V.int (ws.length:Int),V.int ((ws.length:Int)+c/64/7%10 ^ Int.toNat 58),V.int (-2-c/64/7%10 ^ Int.toNat 58)]=xs4.map V.int/\xs4.length=4:=⟨[-1,(ws.length:Int),(ws.length:Int)+c/64/7%10 ^ Int.toNat 58,-2-c/64/7%10 ^ Int.toNat 58],rfl,rfl⟩
   rw[hx4.1]
   have sA:=ad (o:=.tup (xs4.map V.int)) hp1
   have eA:ap H2 p1 (.tup (xs4.map V.int)) p1=some (.tup (xs4.map V.int)):=ac
   generalize ap H2 p1 (.tup (xs4.map V.int))=HA at sA eA ⊢
   have hj4':j4<xs4.length:=by rw[hx4.2];exact hj4
   refine⟨_,bq.of eA,V.int xs4[j4],?_,ak (by decide),fun p2 hp2=>?_⟩
   ·have ej4':c/64/7%4=(j4:Int):=ej4
    rw[ej4']
    exact aV (by rw[FU,FP hj4'];rfl)
   have sB:=ad (o:=.tup [V.int xs4[j4]]) hp2
   have eB:ap HA p2 (.tup [V.int xs4[j4]]) p2=some (.tup [V.int xs4[j4]]):=ac
   generalize ap HA p2 (.tup [V.int xs4[j4]])=HB at sB eB ⊢
   have sAB:=sA.trans sB
   refine⟨a,rfl,_,sAB _ _ hta,fun p3 HC hp3 sC=>?_⟩
   rw[vN]at hp3
   refine dc (sC _ _ eB) hp3 (by simp) (by simp;omega) fun p4 HD hp4 sD=>?_
   have sAD:=sAB.trans (sC.trans sD)
   exact nx (i6 xs4[j4] s0.ps) _ _ (nV.did (sm.trans sAD) (jJ s0.plen hp4 (htr.up (bp.of sAD) _)) hq (.inr (.inr ⟨by omega,by rw[(jS _ s0).1];omega,by rw[(jS _ s0).2];omega⟩)))
  intro f1 u1 G1 pp1
  refine h1 _ _ ?_
  walk_at "nc"
  rw[hq7]
  suffices nx:∀f2 u2 G2,nV ts q7 s0 2 H2 f2 u2 G2->N1 [some v,some (V.int c),some (V.ref lr),some (V.ref ls),some (V.ref l),some (V.ref ps[jp]),some u2,some (V.int (c/64)),some (V.int (c/64/7)),some (V.ref lf)] G2 by
   refine cU (fun hq=>?_) fun hq=>nx _ _ _ (pp1.skip hq)
   obtain⟨sm,hu',_⟩:=pp1.here hq
   obtain⟨a,vs,rfl,hta,htr⟩:=av.val hu'
   have hvl:=parts_len htr
   have s0m:=s02.trans sm
   refine⟨a,rfl,_,hta,fun p3 HC hp3 sC=>?_⟩
   rw[vN]at hp3
   refine dc (sC _ _ (sm _ _ e2)) hp3 (by simp) (by simp;omega) fun p4 HD hp4 sD=>?_
   have sAD:=sC.trans sD
   exact nx (i6 (jw:Int) s0.ps) _ _ (nV.did (sm.trans sAD) (jJ s0.plen hp4 (htr.up (bp.of sAD) _)) hq (.inr (.inr ⟨by omega,by rw[(jS _ s0).1];omega,by rw[(jS _ s0).2];omega⟩)))
  intro f2 u2 G2 pp2
  refine h1 _ _ ?_
  walk_at "nc"
  rw[hq7]
  suffices nx:∀f3 u3 G3,nV ts q7 s0 3 H2 f3 u3 G3->N1 [some v,some (V.int c),some (V.ref lr),some (V.ref ls),some (V.ref l),some (V.ref ps[jp]),some u3,some (V.int (c/64)),some (V.int (c/64/7)),some (V.ref lf)] G3 by
   refine cU (fun hq=>?_) fun hq=>nx _ _ _ (pp2.skip hq)
   obtain⟨sm,hu',_⟩:=pp2.here hq
   obtain⟨a,vs,rfl,hta,htr⟩:=av.val hu'
   have hvl:=parts_len htr
   have s0m:=s02.trans sm
   refine⟨a,rfl,_,bq.of hta,cU (fun hgt=>⟨a,rfl,_,hta,fun p3 HC hp3 sC=>?_⟩) fun hgt=>⟨ak (by decide),fun p3 hp3=>?_⟩⟩
   ·rw[F2,hvl]at hgt
    rw[x_ _ (by simp)]at hp3
    have hp3':HC p3=some (.tup (V.int s0.i::vs.take (s0.ps.length-1))):=by rw[hp3,F2,hvl];obtain⟨m,hm⟩:∃m,s0.ps.length=m+1:=⟨s0.ps.length-1,by omega⟩;rw[hm];simp
    exact nx (i6 s0.i (s0.ps.take (s0.ps.length-1))) _ _ (nV.did (sm.trans sC) (jJ (by rw[Gw];omega) hp3' (nF (htr.up (bp.of sC) _))) hq (.inr (.inr ⟨by omega,by have:=(kg s0 (s0.ps.length-1)).1;omega,by have:=(kg s0 (s0.ps.length-1)).2;omega⟩)))
   ·rw[F2,hvl]at hgt
    have hps0:s0.ps=[]:=Gz.mp (by omega)
    have sA:=ad (o:=.tup [V.ref lf]) hp3
    refine dc (sA _ _ hta) ac (by simp) (by simp;omega) fun p4 HD hp4 sD=>?_
    have sAD:=sA.trans sD
    have hz:=jJ (ds:=s0.ps++[.n0 (jw:Int)]) (by rw[hps0];simp) hp4 (by rw[F3];exact aD.app (htr.up (bp.of sAD) _) (aD.cons (hleaf _ (sm.trans sAD)) aD.nil))
    exact nx _ _ _ (nV.did (sm.trans sAD) hz hq (.inr (.inr ⟨by omega,by rw[(ml s0 (jw:Int) (by omega)).1];omega,by have:=(ml s0 (jw:Int) (by omega)).2;omega⟩)))
  intro f3 u3 G3 pp3
  refine h1 _ _ ?_
  walk_at "nc"
  rw[hq7]
  suffices nx:∀f4 u4 G4,nV ts q7 s0 4 H2 f4 u4 G4->N1 [some v,some (V.int c),some (V.ref lr),some (V.ref ls),some (V.ref l),some (V.ref ps[jp]),some u4,some (V.int (c/64)),some (V.int (c/64/7)),some (V.ref lf)] G4 by
   refine cU (fun hq=>?_) fun hq=>nx _ _ _ (pp3.skip hq)
   obtain⟨sm,hu',_⟩:=pp3.here hq
   obtain⟨a,vs,rfl,hta,htr⟩:=av.val hu'
   have hvl:=parts_len htr
   have s0m:=s02.trans sm
   refine⟨a,rfl,_,bq.of hta,cU (fun hgt=>⟨ak (by decide),fun p3 hp3=>?_⟩) fun hgt=>⟨a,rfl,_,hta,fun p3 HC hp3 sC=>?_⟩⟩
   ·rw[F2,hvl]at hgt
    have sA:=ad (o:=.tup [V.ref lf]) hp3
    refine dc (sA _ _ hta) ac (by simp) (by simp;omega) fun p4 HD hp4 sD=>?_
    have sAD:=sA.trans sD
    have hz:=jJ (ds:=s0.ps++[.n0 (jw:Int)]) (by simp;omega) hp4 (by rw[F3];exact aD.app (htr.up (bp.of sAD) _) (aD.cons (hleaf _ (sm.trans sAD)) aD.nil))
    exact nx _ _ _ (nV.did (sm.trans sAD) hz hq (.inr (.inr ⟨by omega,by rw[(ml s0 (jw:Int) (by omega)).1];omega,by have:=(ml s0 (jw:Int) (by omega)).2;omega⟩)))
   ·rw[F2,hvl]at hgt
    rw[qo (a:=2) (k:=2) _ rfl (by simp;omega)]at hp3
    exact nx (i6 s0.i (s0.ps.take 1)) _ _ (nV.did (sm.trans sC) (jJ (by rw[Gw];omega) (show HC p3=some (.tup (V.int s0.i::vs.take 1)) from hp3) (nF (htr.up (bp.of sC) _))) hq (.inr (.inr ⟨by omega,by have:=(kg s0 1).1;omega,by have:=(kg s0 1).2;omega⟩)))
  intro f4 u4 G4 pp4
  refine h1 _ _ ?_
  walk_at "nc"
  rw[hq7]
  suffices nx:∀f5 u5 G5,nV ts q7 s0 5 H2 f5 u5 G5->N1 [some v,some (V.int c),some (V.ref lr),some (V.ref ls),some (V.ref l),some (V.ref ps[jp]),some u5,some (V.int (c/64)),some (V.int (c/64/7)),some (V.ref lf)] G5 by
   refine cU (fun hq=>?_) fun hq=>nx _ _ _ (pp4.skip hq)
   obtain⟨sm,hu',_⟩:=pp4.here hq
   obtain⟨a,vs,rfl,hta,htr⟩:=av.val hu'
   have hvl:=parts_len htr
   have s0m:=s02.trans sm
   refine⟨a,rfl,_,hta,fun p3 HC hp3 sC=>⟨a,rfl,_,sC _ _ hta,fun p4 HD hp4 sD=>?_⟩⟩
   rw[qo (a:=1) (k:=1) _ rfl (by simp)]at hp3
   rw[vN]at hp4
   refine⟨_,bq.of hp4,fun p5 hp5=>⟨_,.inl ⟨aT.of ac,fun p6 hp6=>?_⟩⟩⟩
   have sE:=(ad (o:=.lst vs.reverse) hp5).trans (ad (o:=.tup vs.reverse) hp6)
   have sx:=sD.trans sE
   refine dc (sx _ _ hp3) ac (by simp) (by simp;omega) fun p7 HG hp7 sG=>?_
   have sAD:=(sC.trans sx).trans sG
   exact nx (i6 s0.i s0.ps.reverse) _ _ (nV.did (sm.trans sAD) (jJ (by rw[F8];exact s0.plen) (show HG p7=some (.tup (V.int s0.i::vs.reverse)) from hp7) (by rw[List.map_reverse];exact pF (htr.up (bp.of sAD) _))) hq (.inr (.inl ⟨vb _ _,nv _ (by rw[F8];exact s0.plen),by omega⟩)))
  intro f5 u5 G5 pp5
  refine h1 _ _ ?_
  walk_at "nc"
  rw[hq7]
  suffices nx:∀f6 u6 G6,nV ts q7 s0 6 H2 f6 u6 G6->N1 [some v,some (V.int c),some (V.ref lr),some (V.ref ls),some (V.ref l),some (V.ref ps[jp]),some u6,some (V.int (c/64)),some (V.int (c/64/7)),some (V.ref lf)] G6 by
   refine cU (fun hq=>?_) fun hq=>nx _ _ _ (pp5.skip hq)
   obtain⟨sm,hu',_⟩:=pp5.here hq
   obtain⟨a,vs,rfl,hta,htr⟩:=av.val hu'
   have hvl:=parts_len htr
   have s0m:=s02.trans sm
   obtain⟨hS1,hS2,hS3,hS4,hS5⟩:=hst.up s0m
   obtain⟨jx,hjx,ejx⟩:=l9 (c/64/7) (n:=xs.length) (by cases xs with | nil=>exact absurd rfl hS3 | cons=>simp)
   obtain⟨ax,x,hax,hxx,vt,lp,hA,htx,_⟩:=hS2.got hjx
   obtain⟨tx',htx',hxd⟩:=hS5 x (FV hxx)
   refine⟨_,aT.of hS1,by rw[FS,hS2.1];omega,_,aT.of hS1,V.ref ax,?_,ax,rfl,_,bq.of hA,vt,rfl,?_⟩
   ·rw[FS,hS2.1,ejx]
    exact aV (by rw[FU,hax];rfl)
   ·rw[hxd]at htx
    exact nx tx' _ _ (nV.did sm htx hq (.inl ⟨htx',by omega⟩))
  intro f6 u6 G6 pp6
  refine h1 _ _ ?_
  clear h1
  walk_at "wp"
  refine⟨v,u6,ps[jp],t,s0,f6,pl,rfl,ht.up (bp.of (s02.trans pp6.sm)) _,pp6.tr,(s2.trans pp6.sm).sqT hpp,hsub,by have:=s0.dep1;omega,fun u' H' hu' s'=>q _ u' H' ⟨pl,s0,f6,hsub,rfl,?_⟩ hu' (s02.trans (pp6.sm.trans s'))⟩
  rcases pp6.rl with⟨_,h⟩ | ⟨h,rfl⟩
  ·exact .inl h
  ·exact .inr ⟨rfl,by omega⟩
def av.ns:av->List Int
 | .n0 i=>[i]
 | .n1 i a=>i::a.ns
 | .n2 i a b=>i::(a.ns++b.ns)
theorem uR(t:av):t.ns=t.i::(t.ps.map av.ns).flatten:=by cases t<;>simp[av.ns,av.i,av.ps]
theorem lA:∀(t:av),t.ns.length=t.cnt
 | .n0 i=>rfl
 | .n1 i a=>by simp[av.ns,av.cnt,lA a]
 | .n2 i a b=>by simp[av.ns,av.cnt,lA a,lA b]
theorem py{α:Type}{xss:List (List α)}{j:Nat}{xs:List α}(h:xss[j]?=some xs):(xss.take (j+1)).flatten=(xss.take j).flatten++xs:=by
 rw[List.take_succ,h];simp
theorem gE{α:Type}:∀(xss:List (List α)) (j:Nat),(xss.take j).flatten.length<=xss.flatten.length
 | [],_=>by simp
 |xs::xss,0=>by simp
 |xs::xss,j+1=>by have:=gE xss j;simp[-List.length_flatten] ;omega
abbrev gC:Stmt:=h7 10
def fM(n:Nat):Sp:=fun vs H Q _=>∃(v:V) (t:av),vs=[v]/\aZ H t.d v/\t.dep<=n/\t.cnt<=1000/\∀l H',H l=none->H' l=some (.lst (t.ns.map V.int))->aq H H'->Q (.ref l) H'
theorem jb:aI ["tree","numbers","part"] ["tree"] (ao gC):=by walk_at "c"
theorem jf{f:Addr}{fd:FuncData}(F:d9 K "numbers_in" "numbers_in" gC f fd)(nb:NB mg)(hm:mg "numbers_in"=some (.ref f))(hk:W.keepIn K (.ref f)=true)(hb:dq K fd ["tree"] []):∀n,n<=60->bb P w K mg base bL (n+1) f fd ["tree"] (fM n)
 |0,_=>by
  refine F.ok jb (fun vs H Q E h=>?_) (fun cdv A outer s H vs Q E hr h=>?_)
  ·obtain⟨v,t,rfl,_⟩:=h;rfl
  ·obtain⟨v,t,rfl,_,h,_⟩:=h
   have:=t.dep1
   omega
 |n+1,hn=>by
  have sc:=jb
  have c_numbers_in:fP P w K mg base bL (n+1) "numbers_in" ["tree"] (fM n):=⟨f,fd,jf F nb hm hk hb n (by omega),hm,hk,hb⟩
  walk_at "f"
  ·obtain⟨v,t,rfl,_⟩:=h;rfl
  ·obtain⟨v,t,rfl,ht,hd,hc,q⟩:=h
   refine⟨_,(af (ay (i:=1) sc.nd rfl (Or.inl rfl) (bf (aa (aC aN (pv 0) ag (fun _ _=>rfl)) ae)))
   (af (bD PassesOwn.never rfl (ul (bH kE (pv 0) (bT ag) bV)) (aF (i:=2) sc.nd rfl (Or.inl rfl))
   (ah (bE (dm PySem.F.plainAttrs_list PySem.F.slot_list_extend PySem.F.type_list_extend pz (pv 1) (aa (aP c_numbers_in (hr.mono (by omega)) rfl a_ (aa (pv 2) ae)) ae)))))
   (ah (aL (pv 1))))),?_⟩
   obtain⟨a,ys,rfl,hta,htr⟩:=av.val ht
   have hyl:=parts_len htr
   have hps:=t.plen
   rw[uR]at q
   have hlen:(t.ps.map av.ns).flatten.length+1=t.cnt:=by rw[<- lA,uR];simp
   walk_at "n"
   refine⟨_,bq.of hta,_,uI _ _,ak (by decide),fun l hl=>h1 _ _ ?_⟩
   walk_at "nc"
   have s1:=ad (o:=.lst [V.int t.i]) hl
   have e1:ap H l (.lst [V.int t.i]) l=some (.lst [V.int t.i]):=ac
   generalize ap H l (.lst [V.int t.i])=H1 at s1 e1 ⊢
   refine⟨_,bq.of (s1 _ _ hta),qr _ _,fun p hp=>?_⟩
   rw[vN]
   have s2:=s1.trans (ad (o:=.tup ys) hp)
   have e2:=ad (o:=.tup ys) hp _ _ e1
   have ep:ap H1 p (.tup ys) p=some (.tup ys):=ac
   generalize ap H1 p (.tup ys)=H2 at s2 e2 ep ⊢
   refine⟨⟨_,bq.of ep⟩,?_⟩
   refine mw (xs:=ys) (fun j σ H'=>aq H H'/\H' p=some (.tup ys)/\H' l=some (.lst ((t.i::((t.ps.map av.ns).take j).flatten).map V.int))/\∃z,σ=[some (V.ref a),some (V.ref l),z]) ⟨s2,ep,by rw[GK];exact e2,_,rfl⟩ ?_ ?_ ?_
   ·rintro j σ H' _ ⟨_,h,_⟩
    exact bq.of h
   ·rintro j x σ H' hx ⟨sm,hp',hl',z,rfl⟩
    obtain⟨s',hs',ht'⟩:=pq htr hx
    have hlt:=av.lt (FV hs')
    have hns:(t.ps.map av.ns)[j]?=some s'.ns:=by rw[FU,hs'];rfl
    have b1:=gE (t.ps.map av.ns) j
    have b2:=gE (t.ps.map av.ns) (j+1)
    rw[py hns,Gb]at b2
    walk_at "wp"
    refine⟨.inl ⟨rfl,_,aT.of hl'⟩,x,s',rfl,ht'.up (bp.of sm) _,by omega,by omega,fun m H3 hm3 h3 s3=>⟨m,rfl,_,s3 _ _ hl',_,h3,?_,aX (sm.trans s3) hl,?_,?_⟩⟩
    ·simp only[FS,F2]
     exact ak (by omega)
    ·rw[aj (fun e=>by rw[e,hl']at hp';cases hp')]
     exact s3 _ _ hp'
    ·rw[ac,py hns]
     simp
   ·rintro σ H' ⟨sm,hp',hl',z,rfl⟩
    refine h1 _ _ ?_
    walk_at "wp"
    rw[hyl,<- FS (f:=av.ns),Gv]at hl'
    exact q l H' hl hl' sm
def bi(ns:List Nat):List V:=ns.map fun(n:Nat)=>V.int (n:Int)
theorem eQ(ns:List Nat):(bi ns).length=ns.length:=by unfold bi;rw[FS]
theorem kG{ns:List Nat}{i n:Nat}(h:ns[i]?=some n):(bi ns)[i]?=some (V.int (n:Int)):=by unfold bi;rw[FU,h];rfl
def bN(rs:List (Nat×RV))(n:Nat):Nat:=match rs[n]? with | some r=>(bg r.1 r.2).length | none=>0
def i8(n:Nat):Str:=Str.ofString (toString (n:Int))
theorem qb{n:Nat}(h:n<100):((n:Int)).natAbs.log2<1920:=by
 rw[Int.natAbs_natCast]
 by_cases hz:n=0
 ·subst hz;decide
 ·exact(Nat.log2_lt hz).mpr (F9 h (by
   have:2 ^ 7<=2 ^ 1920:=Nat.pow_le_pow_right (by decide) (by decide)
   omega))
theorem Be{a b:List Nat}(h:tx a=tx b):a=b:=by
 have e:(tx a).cps.toList=(tx b).cps.toList:=by rw[h]
 rwa [fA,fA]at e
def fO(j:Nat):List Nat:=if j<10 then[48+j] else[48+j/10,48+j%10]
theorem jG:∀j,j<100->i8 j=tx (fO j):=by decide +kernel
theorem xJ{i j:Nat}(h:fO i=fO j)(hi:i<100)(hj:j<100):i=j:=by
 unfold fO at h
 split at h<;>split at h<;>simp at h<;>omega
def dW(m:Nat)(w:Str):Option Nat:=(List.range m).find? fun j=>decide (i8 j=w)
theorem uT{m n:Nat}{w:Str}(h:dW m w=some n):n<m/\i8 n=w:=by
 unfold dW at h
 exact⟨List.mem_range.mp (List.mem_of_find?_eq_some h),of_decide_eq_true (List.find?_some (p:=fun j=>decide (i8 j=w)) h)⟩
theorem oH{m v:Nat}{r:List Nat}(hv:v<m)(hm:m<=100)(h:r=fO v):dW m (tx r)=some v:=by
 cases e:dW m (tx r) with
 |none=>
  unfold dW at e
  have:=List.find?_eq_none.mp e v (List.mem_range.mpr hv)
  rw[h,jG v (by omega)]at this
  simp at this
 |some u=>
  obtain⟨h1,h2⟩:=uT e
  rw[jG u (by omega)]at h2
  rw[xJ ((Be h2).trans h) (by omega) (by omega)]
theorem tG{ns:List Nat}{d:Nat}(h:ns.getLast?=some d):ns≠[]/\(bi ns)[(bi ns).length-1]?=some (V.int (d:Int))/\(bi ns).dropLast=bi ns.dropLast:=by
 refine⟨fun e=>by rw[e]at h;simp at h,?_,by unfold bi;rw[List.map_dropLast]⟩
 rw[eQ]
 rw[List.getLast?_eq_getElem?]at h
 exact kG h
theorem xX{H:Hp}{a b:Addr}{wt:List Nat}{Q:VK}{neg:Bool}(ha:H a=some (.lst (bi wt)))(hb:H b=some (.lst []))(q:Q (.bl (decide (wt=[]) != neg)) H):y0 K neg (.ref a) (.ref b) H Q:=by
 by_cases e:wt=[]
 ·subst e
  refine .inl ⟨[],by unfold Dt.deps;omega,.inl ⟨?_,?_⟩,by simpa using q⟩
  ·unfold gD;exact⟨a,_,rfl,aT.of ha,by unfold cT;rfl⟩
  ·unfold gD;exact⟨b,_,rfl,aT.of hb,by unfold cT;rfl⟩
 ·rw[decide_eq_false e]at q
  refine .inr ⟨a,b,_,_,rfl,rfl,aT.of ha,aT.of hb,?_,by simpa using q⟩
  rw[eQ]
  intro h
  exact e (Gz.mp h)
theorem wQ{α:Type}(a:α)(j:Nat):a::List.replicate j a=List.replicate j a++[a]:=by rw[<- List.replicate_succ,List.replicate_succ']
theorem rH{rs:List (Nat×RV)}{n:Nat}{r:Nat×RV}(h:rs[n]?=some r):bN rs n=(bg r.1 r.2).length:=by unfold bN;rw[h]
theorem ph(xs ys:List Nat):bi (xs++ys)=bi xs++bi ys:=by unfold bi;rw[F3]
theorem vc(rs:List (Nat×RV))(n:Nat):bN rs n<=2:=by
 unfold bN
 cases rs[n]? with
 |none=>exact Gd _
 |some r=>exact mP r.1 r.2
theorem vk(np:Nat->Nat):∀ns:List Nat,(bO np ns).length<=ns.length
 | []=>Gc _
 |n::ns=>by have:=vk np ns;rw[r8,F2];omega
theorem oF{np:Nat->Nat}:∀(k:Nat) {ns:List Nat},wP np ns->wP np (ns.drop k)
 |0,ns,h=>h
 |k+1,[],h=>h
 |k+1,n::ns,h=>oF k h.1
theorem w4{ns:List Nat}{i:Nat}(hi:i<ns.length):ns.drop (ns.length-(i+1))=ns[ns.length-1-i]'(by omega)::ns.drop (ns.length-i):=by
 have h:ns.length-(i+1)<ns.length:=by omega
 rw[List.drop_eq_getElem_cons h,show ns.length-(i+1)+1=ns.length-i by omega]
 congr 1
 congr 1
 omega
theorem yq{α:Type}(y:α)(ys:List α):(y::ys).reverse[(y::ys).reverse.length-1]?=some y/\(y::ys).reverse.dropLast=ys.reverse:=by
 constructor
 ·rw[Gm,Gb]
  simp
 ·rw[Gm,List.dropLast_concat]
theorem rh{R:RC}{H:Hp}{k:Nat}{a:Addr}{v:RV}{Q:VK}{E:XK}(rk:lZ K R)(r:jg R H k a v)(q:j_ H (bg k v) Q) :
  ∃o,o∈iG K R/\∃a2,V.ref a=V.ref a2/\∃dx fs,H a2=some (.ins o.1 dx fs)/\fs.lookup (Str.ofString "parts")=none/\o.2 [.ref a] H Q E:=by
 obtain⟨o,ho,dx',fs,k1,k2,k3⟩:=oM (E:=E) rk r q
 exact⟨o,ho,a,rfl,dx',fs,k1,k2,k3⟩
abbrev qP:Stmt:=h7 11
def rM(R:RC)(C:Addr):Sp:=fun vs H Q _=>∃(a dx l:Addr) (sg st:List Nat) (as:List Addr) (rs:List (Nat×RV)) (ns:List Nat),vs=[.ref a,.ref l]/\iB R H C dx a sg st as rs/\H l=some (.lst (bi ns))/\(∀n∈ns,n<rs.length)/\wP (bN rs) ns/\(bO (bN rs) ns).length=1/\ns.length<=10000 /\
 ∀d v H',bO (bN rs) ns=[d]->aZ H' d v->aq H H'->Q v H'
theorem yA:aI ["grammar","numbers","waiting","number","tree","part"] ["grammar","numbers"] (ao qP):=by walk_at "c"
theorem xt{R:RC}{f C:Addr}{fd:FuncData}(F:d9 K "grown" "grown" qP f fd)(nb:NB mg)(rk:lZ K R)(cp_parts:tF P w K mg base bL 1 "parts" (iG K R))(cm_rule:l6 P w K mg base bL 1 C "rule" ["self","k"] (eD R C)):bb P w K mg base bL 2 f fd ["grammar","numbers"] (rM R C):=by
 have sc:=yA
 walk_at "f"
 ·obtain⟨a,dx,l,sg,st,as,rs,ns,rfl,_⟩:=h;rfl
 ·obtain⟨a,dx,l,sg,st,as,rs,ns,rfl,g,hl,hns,hfit,hone,hnl,q⟩:=h
  obtain⟨lk,pn,t,ha,hk,hrs,hN,hm⟩:=id g
  have hu:=hr.units
  refine⟨_,(af (ay (i:=2) sc.nd rfl (Or.inl rfl) (bf ae))
   (af (bD PassesOwn.never rfl (Bc rfl nb.reversed (aa (pv 1) ae)) (aF (i:=3) sc.nd rfl (Or.inl rfl))
   (af (ay (i:=4) sc.nd rfl (Or.inl rfl) (aW (aa (pv 3) ae)))
   (af (bD PassesOwn.never rfl (cC (mz cp_parts (hr.mono (by decide)) a_ (uy cm_rule (hr.mono (by decide)) a_ (pv 0) (aa (pv 3) ae)))) (aF (i:=5) sc.nd rfl (Or.inl rfl))
   (ah (ay (i:=4) sc.nd rfl (Or.inl rfl) (am bP (pv 4) (aW (aa (mO PySem.F.plainAttrs_list PySem.F.slot_list_pop PySem.F.type_list_pop nS (pv 2)) ae))))))
   (ah (bE (dm PySem.F.plainAttrs_list PySem.F.slot_list_append PySem.F.type_list_append b7 (pv 2) (aa (pv 4) ae)))))))
   (ah (aL (aC bc (pv 2) ag (fun _ _=>rfl)))))),?_⟩
  walk_at "n"
  refine⟨Gd _,fun lw hlw=>h1 _ _ ?_⟩
  clear h1
  have s1:aq H (ap H lw (.lst [])):=ad hlw
  have e1:ap H lw (.lst []) lw=some (.lst []):=ac
  generalize ap H lw (.lst [])=H1 at s1 e1 ⊢
  walk_at "n"
  refine⟨_,aT.of (s1 _ _ hl),?_⟩
  refine yc (xs:=bi ns) (fun i σ H'=>aq H H'/\(∃ys,H' lw=some (.lst ys.reverse)/\aD H' (bO (bN rs) (ns.drop (ns.length-i))) ys)/\∃x1 x2 x3,σ=[some (.ref a),some (.ref l),some (.ref lw),x1,x2,x3]) ⟨s1,⟨[],e1,?_⟩,_,_,_,rfl⟩ ?_ ?_ ?_
  ·rw[Nat.sub_zero,List.drop_length];exact aD.nil
  ·rintro i σ H' _ ⟨sm,_⟩
   exact aT.of (sm _ _ hl)
  ·rintro i x σ H2 hi hx ⟨sm,⟨ys,hys,hT⟩,x1,x2,x3,rfl⟩
   rw[eQ]at hi hx
   have hx':x=V.int ((ns[ns.length-1-i]'(by omega):Nat):Int):=by
    rw[kG (FP (by omega))]at hx
    exact(Option.some.inj hx).symm
   subst hx'
   have hstep:=w4 hi
   have hfit2:=oF (ns.length-(i+1)) hfit
   have hlt:=hns _ (FZ (show ns.length-1-i<ns.length by omega))
   rw[hstep]at hfit2
   have hPl:=vk (bN rs) (ns.drop (ns.length-i))
   rw[Gx]at hPl
   rw[hstep]
   generalize ns[ns.length-1-i]'(by omega)=n at hfit2 hlt ⊢
   obtain⟨_,hfn⟩:=hfit2
   rw[bO]
   generalize bO (bN rs) (ns.drop (ns.length-i))=PP at hT hfn hPl ⊢
   walk_at "wp"
   refine⟨ak (by decide),fun p hp=>?_⟩
   have s2:aq H2 (ap H2 p (.tup [V.int (n:Int)])):=ad hp
   have e2:ap H2 p (.tup [V.int (n:Int)]) p=some (.tup [V.int (n:Int)]):=ac
   generalize ap H2 p (.tup [V.int (n:Int)])=H3 at s2 e2 ⊢
   have sm3:=sm.trans s2
   have g3:=g.up sm3
   have hlr:n<as.length:=by rw[hrs.1];exact hlt
   have hb:as[n]?=some as[n]:=FP hlr
   have hrn:rs[n]?=some rs[n]:=FP hlt
   have rr:=(hrs.2 n _ _ hb hrn).up sm3
   generalize as[n]=b at hb rr
   have hnp:=rH hrn
   generalize rs[n]=r at hrn rr hnp
   refine⟨dx,_,sm3 _ _ ha,rfl,a,dx,sg,st,as,rs,n,b,rfl,g3,hb,?_⟩
   refine rh rk rr ?_
   ·intro l2 H4 hl2 hp2 s4
    have hp2:H4 l2=some (.lst (az (bg r.1 r.2))):=hp2
    refine⟨l2,rfl,⟨_,aT.of hp2⟩,?_⟩
    have hll:l2≠lw:=fun e=>by rw[e,s2 _ _ hys]at hl2;cases hl2
    refine fT (xs:=az (bg r.1 r.2)) (fun j σ H'=>aq H H'/\H' l2=some (.lst (az (bg r.1 r.2)))/\(∃(tt:Addr) (zs ys:List V) (y:Option V),H' tt=some (.tup (V.int n::zs))/\aD H' (PP.take j) zs/\H' lw=some (.lst ys.reverse)/\aD H' (PP.drop j) ys/\σ=[some (V.ref a),some (V.ref l),some (V.ref lw),some (V.int n),some (V.ref tt),y])/\j<=bN rs n) ⟨sm3.trans s4,hp2,⟨p,[],ys,_,s4 _ _ e2,by rw[GK];exact aD.nil,s4 _ _ (s2 _ _ hys),by rw[GL];exact hT.up (bp.of (s2.trans s4)) _,rfl⟩,Gd _⟩ ?_ ?_ ?_
    ·rintro j σ H' _ ⟨_,h,_⟩
     exact aT.of h
    ·rintro j x σ H' hx ⟨sm5,h2,⟨tt,zs,ys,y,htt,hz,hw,hy,rfl⟩,hj⟩
     have hj2:j<bN rs n:=by have:=(FQ.mp hx).1;rw[aJ]at this;omega
     have hjP:j<PP.length:=by omega
     rw[List.drop_eq_getElem_cons hjP]at hy
     obtain⟨v,ys',rfl,hv,hy'⟩:=hy.uncons
     obtain⟨r1,r2⟩:=yq v ys'
     walk_at "wp"
     refine⟨.inl ⟨rfl,_,aT.of hw⟩,_,hw,_,r1,ak (by decide),?_⟩
     rw[r2]
     have u1:bp H' (ap H' lw (.lst ys'.reverse)):=bp.put hw
     have t1:aq H (ap H' lw (.lst ys'.reverse)):=aX sm5 hlw
     have w1:ap H' lw (.lst ys'.reverse) lw=some (.lst ys'.reverse):=ac
     have l1:ap H' lw (.lst ys'.reverse) l2=some (.lst (az (bg r.1 r.2))):=by rw[aj hll];exact h2
     generalize ap H' lw (.lst ys'.reverse)=H6 at u1 t1 w1 l1 ⊢
     intro p1 hp1
     refine eu (ad hp1 _ _ (u1 _ _ htt)) ac (by simp) (by simp) ?_ fun p2 hp2=>?_
     ·have:=hz.length
      rw[Gw]at this
      have:=vc rs n
      simp
      omega
     ·have s7:aq H6 (ap (ap H6 p1 (.tup [v])) p2 (.tup ((V.int (n:Int)::zs)++[v]))):=(ad hp1).trans (ad hp2)
      have u7:=u1.trans (bp.of s7)
      refine⟨t1.trans s7,s7 _ _ l1,⟨p2,zs++[v],by rw[ac];rfl,?_,ys',s7 _ _ w1,hy'.up u7 _,rfl⟩,hj2⟩
      rw[List.take_succ_eq_append_getElem hjP]
      exact(hz.up u7 _).app (aD.cons (hv.up u7 _) aD.nil)
    ·rintro σ H' ⟨sm5,h2,⟨tt,zs,ys,y,htt,hz,hw,hy,rfl⟩,hj⟩
     rw[aJ,<- hnp]at hz hy
     walk_at "wp"
     have hyl:=hy.length
     rw[Gx]at hyl
     have u1:bp H' (ap H' lw (.lst (ys.reverse++[V.ref tt]))):=bp.put hw
     refine⟨.inl ⟨rfl,_,aT.of hw⟩,_,hw,?_,aX sm5 hlw,V.ref tt::ys,by rw[ac,Gm],aD.cons (aZ.node (u1 _ _ htt) (hz.up u1 _)) (hy.up u1 _)⟩
     rw[F8];exact bw (by omega)
  ·rintro σ H' ⟨sm,⟨ys,hys,hT⟩,x1,x2,x3,rfl⟩
   rw[eQ,Nat.sub_self,GL]at hT
   obtain⟨d,hd⟩:∃d,bO (bN rs) ns=[d]:=by
    match bO (bN rs) ns,hone with
    | [d],_=>exact⟨d,rfl⟩
   rw[hd]at hT
   obtain⟨v,r,rfl,hv,hr'⟩:=hT.uncons
   have hr0:=hr'.length
   have:r=[]:=Gz.mp hr0
   subst this
   refine h1 _ _ ?_
   walk_at "wp"
   exact⟨_,aT.of hys,v,rfl,q d v H' hd hv sm⟩
def dQ(z:List Nat):List Str:=(SpM.parts 32 z).map tx
theorem xR(z:List Nat):az (SpM.parts 32 z)=(dQ z).map V.str:=by unfold az dQ;rw[F5];rfl
theorem sY{z:List Nat}(h:z.length<=9000):(dQ z).length<=10000/\∀w∈dQ z,w.length<=100000:=by
 obtain⟨h1,h2⟩:=SpM.parts_len 32 z
 unfold dQ
 refine⟨by rw[FS];omega,fun w hw=>?_⟩
 obtain⟨r,hr,rfl⟩:=GA.mp hw
 rw[aA]
 have:=h1 r hr
 omega
theorem vx{i:Nat}{w:Str}(hi:i<100):dW (i+1) w=if w=i8 i then some i else dW i w:=by
 by_cases e:w=i8 i
 ·rw[if_pos e,e,jG i hi]
  exact oH (Gp i) (by omega) rfl
 ·rw[if_neg e]
  unfold dW
  rw[List.range_succ,List.find?_append]
  have:List.find? (fun j=>decide (i8 j=w)) [i]=none:=by
   rw[List.find?_eq_none]
   intro x hx
   rw[FT.mp hx]
   simpa using fun h=>e h.symm
  rw[this,Option.or_none]
theorem xb{κ:Type}[DecidableEq κ](kvs:List (κ×V))(k:κ)(v:V):(dO kvs k v).length<=kvs.length+1:=by
 unfold dO
 split
 ·rw[FS];omega
 ·rw[Gb];exact Gc _
theorem At{g:TG}{v:V}{σ:St}{H:Hp}{Q:St->Hp->Prop}(h:∀N:St->Hp->Prop,(∀σ2 H2,Q σ2 H2->N σ2 H2)->g v σ H N):g v σ H Q:=h Q fun _ _ z=>z
def B0(CF:Addr)(H:Hp)(E:XK)(i:Nat):Prop:=∀d H',H' d=some (.xd [("at",.int (i:Int))])->aq H H'->E (.ref CF) (some d) H'
abbrev iH:Stmt:=h7 14
def j0(R:RC)(C CF:Addr):Sp:=fun vs H Q E=>∃(a dx:Addr) (sg st:List Nat) (as:List Addr) (rs:List (Nat×RV)) (z:List Nat),vs=[.ref a,.str (tx z)]/\iB R H C dx a sg st as rs/\rs.length<=100/\z.length<=9000 /\
 (∀i,jM (bN rs) (dW rs.length) 0 (dQ z) [1]=.inl i->B0 CF H E i)/\∀ns,jM (bN rs) (dW rs.length) 0 (dQ z) [1]=.inr ns->∀d v H',bO (bN rs) ns=[d]->aZ H' d v->aq H H'->Q v H'
theorem qF:aI ["grammar","text","words","numbers_by_word","number","numbers","wanted","at","word","depth","part"] ["grammar","text"] (ao iH):=by walk_at "c"
theorem qg{R:RC}{f C C_NoWord:Addr}{fd:FuncData}{t1 t2:Tok}(F:d9 K "read_tree" "read_tree" iH f fd)(nb:NB mg)(rk:lZ K R)(m_MOST_NUMBERS:mg "MOST_NUMBERS"=some (.int 200 t1))(m_MOST_WITHIN:mg "MOST_WITHIN"=some (.int 60 t2))(m_NoWord:mg "NoWord"=some (.ref C_NoWord))(xi_NoWord:XI P w K mg base 1 C_NoWord "at")
  (cp_parts:tF P w K mg base bL 1 "parts" (iG K R)) (cm_rule:l6 P w K mg base bL 1 C "rule" ["self","k"] (eD R C)) (cm_many:l6 P w K mg base bL 1 C "many" ["self"] (gn R C)) (c_grown:fP P w K mg base bL 2 "grown" ["grammar","numbers"] (rM R C)) :
  bb P w K mg base (dP P w) 4 f fd ["grammar","text"] (j0 R C C_NoWord):=by
 have sc:=qF
 walk_at "x"
 ·obtain⟨a,dx,sg,st,as,rs,z,rfl,_⟩:=h;rfl
 ·obtain⟨a,dx,sg,st,as,rs,z,rfl,g,hn,hz,bad,good⟩:=h
  obtain⟨lk,pn,t,ha,hk,hrs,hN,hm⟩:=id g
  have hu:=hr.units
  refine⟨_,(af (ay (i:=2) sc.nd rfl (Or.inl rfl) (dm PySem.F.plainAttrs_str PySem.F.slot_str_split PySem.F.type_str_split vB (pv 1) (bB ae)))
   (af (ay (i:=3) sc.nd rfl (Or.inl rfl) wV)
   (af (bD PassesOwn.leaving rfl (bR rfl nb.range (aa (xH cm_many (hr.mono (by decide)) a_ (pv 0)) ae)) (aF (i:=4) sc.nd rfl (Or.inl rfl))
   (ah (yZ (Gy (GC (by decide:1<=64) _) hu) (pv 3) (dI gX rfl nb.str pT (aa (pv 4) ae)) (pv 4) rfl)))
   (af (ay (i:=5) sc.nd rfl (Or.inl rfl) (bf ae))
   (af (ay (i:=6) sc.nd rfl (Or.inl rfl) (bf (br ae)))
   (af (bD PassesOwn.leaving rfl (mj rfl nb.enumerate (aa (pv 2) ae)) (im (n:=2) rfl (bj (aF (i:=7) sc.nd rfl (Or.inl rfl)) (bj (aF (i:=8) sc.nd rfl (Or.inl rfl)) eM)))
   (af (bd (PW.pt (g9 (aB (xl hu) (pv 6) (bf ae) (aK _)) (g9 (AM (vC (Gy (GC (by decide:1<=64) _) hu) (pv 8) (pv 3)) (by with_unfolding_all rfl)) (fQ (aB BD (pv 7) (dJ (v:=.int 200) rfl m_MOST_NUMBERS ⟨_,rfl⟩) (aK _))))))
   (ah (da xi_NoWord (hr.mono (by decide)) rfl rfl m_NoWord (dg fun _ _ _ h=>h) (aa (pv 7) ae)))
   aM)
   (af (ay (i:=9) sc.nd rfl (Or.inl rfl) (mO PySem.F.plainAttrs_list PySem.F.slot_list_pop PySem.F.type_list_pop nS (pv 6)))
   (af (bd (aB hJ (pv 9) (dJ (v:=.int 60) rfl m_MOST_WITHIN ⟨_,rfl⟩) (aK _))
   (ah (da xi_NoWord (hr.mono (by decide)) rfl rfl m_NoWord (dg fun _ _ _ h=>h) (aa (pv 7) ae)))
   aM)
   (af (bE (dm PySem.F.plainAttrs_list PySem.F.slot_list_append PySem.F.type_list_append b7 (pv 5) (aa (zr (Gy (GC (by decide:1<=64) _) hu) (pv 3) (pv 8) (fun _ _=>rfl)) ae)))
   (ah (bD PassesOwn.leaving rfl (cC (mz cp_parts (hr.mono (by decide)) a_ (uy cm_rule (hr.mono (by decide)) a_ (pv 0) (aa (aC bc (pv 5) (pv 7) (fun _ _=>rfl)) ae)))) (aF (i:=10) sc.nd rfl (Or.inl rfl))
   (ah (bE (dm PySem.F.plainAttrs_list PySem.F.slot_list_append PySem.F.type_list_append b7 (pv 6) (aa (am bt (pv 9) ag) ae)))))))))))
   (af (bd (aB (w8 hu) (pv 6) (bf ae) (aK _))
   (ah (da xi_NoWord (hr.mono (by decide)) rfl rfl m_NoWord (dg fun _ _ _ h=>h) (aa (au aO rfl nb.len aR (aa (pv 2) ae)) ae)))
   aM)
   (ah (aL (aP (CX:=dP P w) c_grown.lift (hr.mono (by decide)) rfl bJ (aa (pv 0) (aa (pv 5) ae)))))))))))),?_⟩
  obtain⟨hwl,hws⟩:=sY hz
  have hwV:=xR z
  walk_at "n"
  refine⟨rfl,z,rfl,32,rfl,by omega,fun p hp=>h1 _ _ ?_⟩
  clear h1
  have s1:aq H (ap H p (.lst (az (SpM.parts 32 z)))):=ad hp
  have e1:ap H p (.lst (az (SpM.parts 32 z))) p=some (.lst ((dQ z).map V.str)):=by rw[ac,hwV]
  show tM _ _ _ _ (ap H p (.lst (az (SpM.parts 32 z))))
  generalize ap H p (.lst (az (SpM.parts 32 z)))=H1 at s1 e1 ⊢
  generalize dQ z=ws at hwl hws bad good e1
  clear hwV
  walk_at "n"
  refine fun dd hdd=>h1 _ _ ?_
  clear h1
  have s2:aq H (ap H1 dd (.dK [])):=s1.trans (ad hdd)
  have e2:ap H1 dd (.dK []) p=some (.lst (ws.map V.str)):=ad hdd _ _ e1
  have d2:ap H1 dd (.dK []) dd=some (.dK []):=ac
  have frd:H dd=none:=s1.free hdd
  have hpd:p≠dd:=fun e=>by rw[<- e,e1]at hdd;cases hdd
  generalize ap H1 dd (.dK [])=H2 at s2 e2 d2 ⊢
  walk_at "n"
  refine⟨dx,_,s2 _ _ ha,rfl,a,dx,sg,st,as,rs,rfl,g.up s2,(rs.length:Int),rfl,by omega,by omega,?_⟩
  have en:((rs.length:Nat):Int).toNat=rs.length:=by omega
  rw[en]
  refine eY (lo:=0) (n:=rs.length) (fun i σ H'=>aq H H'/\H' p=some (.lst (ws.map V.str))/\(∃kvs:List (cW×V),H' dd=some (.dK kvs)/\kvs.length<=i/\∀w,cj kvs (.inr w)=(dW i w).map fun(n:Nat)=>V.int (n:Int))/\∃x,σ=[some (V.ref a),some (V.str (tx z)),some (V.ref p),some (V.ref dd),x,none,none,none,none,none,none]) ⟨s2,e2,⟨[],d2,Gc _,fun w=>rfl⟩,_,rfl⟩ ?_ ?_
  ·rintro i σ H' hi ⟨sm,hp',⟨kvs,hkv,hkl,hval⟩,x,rfl⟩
   walk_at "wp"
   refine⟨qb (by omega),_,yj.k (k:=.inr (i8 i)) hkv (bw (by omega)),aX sm frd,by rw[aj hpd];exact hp',_,ac,by have:=xb kvs (.inr (i8 i)) (V.int (i:Int));omega,fun w=>?_⟩
   rw[wS,vx (by omega)]
   by_cases e:w=i8 i
   ·rw[if_pos (by rw[e]),if_pos e];rfl
   ·rw[if_neg (fun h=>e (Sum.inr.inj h)),if_neg e];exact hval w
  ·rintro σ H3 ⟨s3,hp3,⟨kvs,hkv,hkl,hval⟩,x,rfl⟩
   refine h1 _ _ ?_
   walk_at "nc"
   refine⟨Gd _,fun ln hln=>h1 _ _ ?_⟩
   clear h1
   have frn:H ln=none:=s3.free hln
   have s4:aq H3 (ap H3 ln (.lst [])):=ad hln
   have e4:ap H3 ln (.lst []) ln=some (.lst (bi [])):=ac
   generalize ap H3 ln (.lst [])=H4 at s4 e4 ⊢
   walk_at "n"
   refine⟨ak (by decide),fun lt hlt=>h1 _ _ ?_⟩
   clear h1
   have frt:H lt=none:=(s3.trans s4).free hlt
   have hnt:ln≠lt:=fun e=>by rw[<- e,e4]at hlt;cases hlt
   have s5:aq H4 (ap H4 lt (.lst [V.int 1])):=ad hlt
   have e5:ap H4 lt (.lst [V.int 1]) lt=some (.lst (bi [1])):=ac
   have n5:=s5 _ _ e4
   generalize ap H4 lt (.lst [V.int 1])=H5 at s5 e5 n5 ⊢
   have s35:=s4.trans s5
   have s05:=s3.trans s35
   have p5:=s35 _ _ hp3
   have k5:=s35 _ _ hkv
   have fpd:dd≠ln:=fun e=>by rw[<- e,hkv]at hln;cases hln
   have fpt:dd≠lt:=fun e=>by rw[<- e,s4 _ _ hkv]at hlt;cases hlt
   have ppn:p≠ln:=fun e=>by rw[<- e,hp3]at hln;cases hln
   have ppt:p≠lt:=fun e=>by rw[<- e,s4 _ _ hp3]at hlt;cases hlt
   walk_at "n"
   refine⟨_,aT.of p5,?_⟩
   refine iM (xs:=ws.map V.str) (fun i σ H'=>aq H H'/\(H' p=some (.lst (ws.map V.str))/\H' dd=some (.dK kvs))/\(∃ns wt:List Nat,H' ln=some (.lst (bi ns))/\H' lt=some (.lst (bi wt))/\ns.length=i/\(∀n∈ns,n<rs.length)/\jM (bN rs) (dW rs.length) 0 ws [1]=ik ns (jM (bN rs) (dW rs.length) i (ws.drop i) wt)/\wt.length<=1+2*i)/\∃x0 x1 x2 x3 x4,σ=[some (V.ref a),some (V.str (tx z)),some (V.ref p),some (V.ref dd),x0,some (V.ref ln),some (V.ref lt),x1,x2,x3,x4]) ⟨s05,⟨p5,k5⟩,⟨[],[1],n5,e5,rfl,(fun n hn=>nomatch hn),xN ws,by decide⟩,_,_,_,_,_,rfl⟩ ?_ ?_ ?_
   ·rintro i σ H' _ ⟨_,⟨h,_⟩,_⟩
    exact aT.of h
   ·rintro i x σ H6 T hx ⟨sm,⟨p6,k6⟩,⟨ns,wt,n6,t6,hnl,hns,hgo,hwl2⟩,x0,x1,x2,x3,x4,rfl⟩ hT
    have hlt':i<ws.length:=by have:=(FQ.mp hx).1;rwa [FS]at this
    rw[FU,FP hlt']at hx
    cases hx
    have hwi:ws[i]?=some ws[i]:=FP hlt'
    have hwm:=hws _ (FZ hlt')
    generalize ws[i]=wd at hwi hwm ⊢
    have s7:aq H6 (ap H6 T (.tup [.int (i:Int),.str wd])):=ad hT
    have e7:ap H6 T (.tup [.int (i:Int),.str wd]) T=some (.tup [.int (i:Int),.str wd]):=ac
    generalize ap H6 T (.tup [.int (i:Int),.str wd])=H7 at s7 e7 ⊢
    have badE:fe (bN rs) (dW rs.length) i wd wt=none->∀H',aq H H'->1<=sizeLine/\∀d,H' d=none->E (.ref C_NoWord) (some d) (ap H' d (.xd [("at",.int (i:Int))])):=fun h H' sm'=>
     ⟨ak (by decide),fun d hd=>bad i (AX hgo hwi h) d _ ac (sm'.trans (ad hd))⟩
    refine At fun N0 h0=>?_
    walk_at "wp"
    refine⟨_,bq.of e7,rfl,_,_,rfl,_,_,rfl,rfl,h0 _ _ ?_⟩
    clear h0
    walk_at "n"
    refine⟨Gd _,fun p8 hp8=>?_⟩
    have s8:aq H7 (ap H7 p8 (.lst [])):=ad hp8
    have sm8:=(sm.trans s7).trans s8
    have s68:=s7.trans s8
    refine xX (wt:=wt) (s8 _ _ (s7 _ _ t6)) ac ?_
    generalize ap H7 p8 (.lst [])=H8 at s8 sm8 s68 ⊢
    refine⟨_,rfl,?_⟩
    have p8':=s68 _ _ p6;have k8:=s68 _ _ k6;have n8:=s68 _ _ n6;have t8:=s68 _ _ t6
    by_cases w0:wt=[]
    ·rw[if_pos (by rw[decide_eq_true w0];rfl)]
     exact badE (by rw[w0];unfold fe;cases dW rs.length wd<;>rfl) _ sm8
    rw[if_neg (by rw[decide_eq_false w0];decide)]
    obtain⟨d,hd⟩:∃d,wt.getLast?=some d:=⟨_,List.getLast?_eq_some_getLast w0⟩
    obtain⟨_,hlast,hdrop⟩:=tG hd
    refine⟨_,nZ.k (k:=.inr wd) k8,?_⟩
    rw[hval wd]
    cases hnum:dW rs.length wd with
    |none=>
     rw[if_pos (by rfl)]
     exact badE (by unfold fe;rw[hnum]) _ sm8
    |some n=>
     rw[if_neg (by intro h;cases h)]
     by_cases i2:200<=(i:Int)
     ·rw[if_pos i2]
      refine badE ?_ _ sm8
      unfold fe
      rw[hd,hnum]
      simp only[]
      rw[if_pos (.inl (by omega))]
     rw[if_neg i2]
     refine h1 _ _ ?_
     walk_at "nc"
     refine⟨.inl ⟨rfl,_,aT.of t8⟩,_,t8,_,hlast,h1 _ _ ?_⟩
     clear h1
     rw[hdrop]
     have s9:aq H (ap H8 lt (.lst (bi wt.dropLast))):=aX sm8 frt
     have t9:ap H8 lt (.lst (bi wt.dropLast)) lt=some (.lst (bi wt.dropLast)):=ac
     have n9:ap H8 lt (.lst (bi wt.dropLast)) ln=some (.lst (bi ns)):=by rw[aj hnt];exact n8
     have p9:ap H8 lt (.lst (bi wt.dropLast)) p=some (.lst (ws.map V.str)):=by rw[aj ppt];exact p8'
     have k9:ap H8 lt (.lst (bi wt.dropLast)) dd=some (.dK kvs):=by rw[aj fpt];exact k8
     generalize ap H8 lt (.lst (bi wt.dropLast))=H9 at s9 t9 n9 p9 k9 ⊢
     walk_at "n"
     by_cases d60:60<(d:Int)
     ·rw[if_pos d60]
      refine badE ?_ _ s9
      unfold fe
      rw[hd,hnum]
      simp only[]
      rw[if_pos (.inr (by omega))]
     rw[if_neg d60]
     refine h1 _ _ ?_
     clear h1
     have hnlt:=(uT hnum).1
     have hstep:fe (bN rs) (dW rs.length) i wd wt=some (n,wt.dropLast++List.replicate (bN rs n) (d+1)):=by
      unfold fe
      rw[hnum,hd]
      simp only[]
      rw[if_neg (by omega)]
     have hgo':=km hgo hwi hstep
     have gv:nZ H9 dd (V.str wd) (some (V.int (n:Int))):=by
      have:=nZ.k (k:=.inr wd) k9
      rw[hval wd,hnum]at this
      exact this
     walk_at "n"
     refine⟨.inl ⟨rfl,_,aT.of n9⟩,_,gv,_,n9,by rw[eQ];exact bw (by omega),h1 _ _ ?_⟩
     clear h1
     have en1:bi ns++[V.int (n:Int)]=bi (ns++[n]):=by rw[ph];rfl
     rw[en1]
     have s10:aq H (ap H9 ln (.lst (bi (ns++[n])))):=aX s9 frn
     have n10:ap H9 ln (.lst (bi (ns++[n]))) ln=some (.lst (bi (ns++[n]))):=ac
     have t10:ap H9 ln (.lst (bi (ns++[n]))) lt=some (.lst (bi wt.dropLast)):=by rw[aj (Ne.symm hnt)];exact t9
     have p10:ap H9 ln (.lst (bi (ns++[n]))) p=some (.lst (ws.map V.str)):=by rw[aj ppn];exact p9
     have k10:ap H9 ln (.lst (bi (ns++[n]))) dd=some (.dK kvs):=by rw[aj fpd];exact k9
     generalize ap H9 ln (.lst (bi (ns++[n])))=H10 at s10 n10 t10 p10 k10 ⊢
     have hlr:n<as.length:=by rw[hrs.1];exact hnlt
     have hb:as[n]?=some as[n]:=FP hlr
     have hrn:rs[n]?=some rs[n]:=FP hnlt
     have rr:=(hrs.2 n _ _ hb hrn).up s10
     generalize as[n]=b at hb rr
     have hnp:=rH hrn
     have hfew:=vc rs n
     generalize rs[n]=r at hrn rr hnp
     walk_at "wp"
     refine⟨dx,_,s10 _ _ ha,rfl,_,aT.of n10,V.int (n:Int),aV (kG (by rw[<- hnl];exact List.getElem?_concat_length)),a,dx,sg,st,as,rs,n,b,rfl,g.up s10,hb,?_⟩
     refine rh rk rr ?_
     intro l2 H11 hl2 hp2 s11
     have hp2:H11 l2=some (.lst (az (bg r.1 r.2))):=hp2
     refine⟨l2,rfl,⟨_,aT.of hp2⟩,?_⟩
     have hll:l2≠lt:=fun e=>by rw[e,t10]at hl2;cases hl2
     refine fT (xs:=az (bg r.1 r.2)) (fun j σ H'=>aq H H'/\(H' l2=some (.lst (az (bg r.1 r.2)))/\H' p=some (.lst (ws.map V.str))/\H' dd=some (.dK kvs)/\H' ln=some (.lst (bi (ns++[n]))))/\H' lt=some (.lst (bi (wt.dropLast++List.replicate j (d+1))))/\j<=bN rs n/\∃y,σ=[some (V.ref a),some (V.str (tx z)),some (V.ref p),some (V.ref dd),x0,some (V.ref ln),some (V.ref lt),some (V.int i),some (V.str wd),some (V.int d),y]) ⟨s10.trans s11,⟨hp2,s11 _ _ p10,s11 _ _ k10,s11 _ _ n10⟩,by rw[List.replicate_zero,Gq];exact s11 _ _ t10,Gd _,_,rfl⟩ ?_ ?_ ?_
     ·rintro j σ H' _ ⟨_,⟨h,_⟩,_⟩
      exact aT.of h
     ·rintro j x σ H' hx ⟨sm6,⟨h2,hp',hk',hn'⟩,hw6,hj,y,rfl⟩
      have hj2:j<bN rs n:=by have:=(FQ.mp hx).1;rw[aJ]at this;omega
      walk_at "wp"
      refine⟨.inl ⟨rfl,_,aT.of hw6⟩,_,hw6,?_,aX sm6 frt,by rw[aj hll];exact h2,by rw[aj ppt];exact hp',by rw[aj fpt];exact hk',by rw[aj hnt];exact hn',?_,hj2⟩
      ·rw[eQ,Gb,List.length_dropLast,List.length_replicate];exact bw (by omega)
      ·rw[ac,wQ,<- Gs,ph (wt.dropLast++List.replicate j (d+1))];rfl
     ·rintro σ H' ⟨sm6,⟨h2,hp',hk',hn'⟩,hw6,hj,y,rfl⟩
      rw[aJ,<- hnp]at hw6
      refine⟨sm6,hp',hk',⟨_,hn',_,hw6,by rw[Gb,hnl];rfl,fun m hm=>?_,hgo',?_⟩,_,_,_,_,_,rfl⟩
      ·rcases F4.mp hm with h | h
       ·exact hns m h
       ·rw[FT.mp h];exact hnlt
      ·rw[Gb,List.length_dropLast,List.length_replicate]
       omega
   ·rintro σ H' ⟨sm,⟨p6,k6⟩,⟨ns,wt,n6,t6,hnl,hns,hgo,hwl2⟩,x0,x1,x2,x3,x4,rfl⟩
    rw[FS]at hgo
    refine h1 _ _ ?_
    clear h1
    walk_at "wp"
    refine⟨Gd _,fun p8 hp8=>?_⟩
    refine xX (wt:=wt) (ad hp8 _ _ t6) ac ?_
    refine⟨_,rfl,?_⟩
    have ge:=A3 hgo
    have s8:aq H' (ap H' p8 (.lst [])):=ad hp8
    generalize ap H' p8 (.lst [])=H8 at s8 ⊢
    by_cases w0:wt=[]
    ·rw[if_neg (by rw[decide_eq_true w0];decide)]
     have hg:=ge.1 w0
     obtain⟨g1,g2,g3,g4,g5⟩:=uG _ _ _ _ hg
     exact⟨a,dx,ln,sg,st,as,rs,ns,rfl,g.up (sm.trans s8),s8 _ _ n6,hns,g3,g4,by omega,fun d v H' h1 h2 h3=>good ns hg d v H' h1 h2 ((sm.trans s8).trans h3)⟩
    ·rw[if_pos (by rw[decide_eq_false w0];rfl)]
     refine⟨_,aT.of (s8 _ _ p6),ak (by decide),fun d hd=>?_⟩
     rw[FS]
     exact bad _ (ge.2 w0) d _ ac ((sm.trans s8).trans (ad hd))
theorem Gr.pos{rs:List (Nat×RV)}{k:Nat}{d:Dt}{nm:List Nat}{p:bS}{c:Int}(g:Gr rs d nm p c k):0<rs.length:=by
 cases g with
 |cell e=>have:=(FQ.mp e).1;omega
 |turn e _=>have:=(FQ.mp e).1;omega
 |pair _ e _ _ _=>have:=(FQ.mp e).1;omega
theorem sd{f s:av}:∀{pl:List Nat} {t:av},Sub pl t=some s->(e8 f pl t).dep<=max t.dep (pl.length+f.dep)
 | [],t,h=>by simp[e8];omega
 |k::pl,t,h=>by
  unfold Sub at h
  unfold e8
  cases hj:t.ps[k]? with
  |none=>rw[hj]at h;cases h
  |some u=>
   rw[hj]at h
   have h2:=sd (f:=f) h
   obtain⟨h3,h4⟩:=u_ (u:=e8 f pl u) hj
   have:=(av.lt (FV hj)).1
   show(i6 t.i (t.ps.set k (e8 f pl u))).dep<=max t.dep (pl.length+1+f.dep)
   omega
theorem yF{s f:av}(h:f.ps=s.ps.reverse):f.cnt=s.cnt/\f.dep=s.dep:=by
 have h1:f.cnt=s.cnt:=by rw[f.cnt_eq,s.cnt_eq,h,List.map_reverse,List.sum_reverse]
 refine⟨h1,?_⟩
 cases s with
 |n0 i=>cases f with
  |n0 j=>rfl
  |n1 j a=>simp[av.ps]at h
  |n2 j a b=>simp[av.ps]at h
 |n1 i c=>cases f with
  |n0 j=>simp[av.ps]at h
  |n1 j a=>simp[av.ps]at h;rw[h];rfl
  |n2 j a b=>simp[av.ps]at h
 |n2 i c d=>cases f with
  |n0 j=>simp[av.ps]at h
  |n1 j a=>simp[av.ps]at h
  |n2 j a b=>simp[av.ps]at h;rw[h.1,h.2];simp only[av.dep];omega
theorem By.size{ts:List av}{t t':av}{q:Int}(h:By ts t t' q)(hts:∀f∈ts,f.dep<=18/\f.cnt<=60){n m:Nat}(h1:t.cnt<=n)(h2:t.dep<=m):t'.cnt<=2*n+60/\t'.dep<=m+18:=by
 obtain⟨pl,s,f,hs,rfl,hr⟩:=h
 obtain⟨a1,_⟩:=oA (f:=f) hs
 have a2:=sd (f:=f) hs
 have b1:=Sub.cnt hs
 have b2:=Sub.len hs
 have b3:=s.dep1
 have b4:=s.cnt1
 rcases hr with(⟨hf,_⟩ | ⟨_,hf,_⟩ | ⟨_,hf⟩) | ⟨rfl,_⟩
 ·have:=hts f hf;omega
 ·have:=yF hf;omega
 ·omega
 ·omega
def Wf(rs:List (Nat×RV)):av->Prop
 | .n0 i=>0<=i/\i<rs.length/\bN rs i.toNat=0
 | .n1 i a=>(0<=i/\i<rs.length/\bN rs i.toNat=1)/\Wf rs a
 | .n2 i a b=>(0<=i/\i<rs.length/\bN rs i.toNat=2)/\Wf rs a/\Wf rs b
theorem qT(rs:List (Nat×RV))(t:av):Wf rs t↔(0<=t.i/\t.i<rs.length/\bN rs t.i.toNat=t.ps.length)/\∀s∈t.ps,Wf rs s:=by
 cases t with
 |n0 i=>simp[Wf,av.i,av.ps]
 |n1 i a=>simp[Wf,av.i,av.ps]
 |n2 i a b=>simp[Wf,av.i,av.ps]
theorem Gr.wf{rs:List (Nat×RV)}{k:Nat}{d:Dt}{nm:List Nat}{p:bS}{c:Int}(g:Gr rs d nm p c k):∀(t:av),d=t.d->Wf rs t:=by
 induction g with
 | @cell n v e=>
  intro t ht
  have:t=.n0 n:=av.d_inj (s:=t) (t:=.n0 n) ht.symm
  subst this
  have hn:=(FQ.mp e).1
  refine⟨by omega,by omega,?_⟩
  rw[F0];unfold bN;rw[e];rfl
 | @turn n v d p c k e g ih=>
  intro t ht
  obtain⟨u,rfl,_⟩:=g.tre
  have:t=.n1 n u:=av.d_inj (s:=t) (t:=.n1 n u) ht.symm
  subst this
  have hn:=(FQ.mp e).1
  refine⟨⟨by omega,by omega,?_⟩,ih u rfl⟩
  rw[F0];unfold bN;rw[e];rfl
 | @pair n kd v d1 d2 p1 p2 p c1 c2 k1 k2 hk e g1 g2 m ih1 ih2=>
  intro t ht
  obtain⟨u,rfl,_⟩:=g1.tre
  obtain⟨u',rfl,_⟩:=g2.tre
  have:t=.n2 n u u':=av.d_inj (s:=t) (t:=.n2 n u u') ht.symm
  subst this
  have hn:=(FQ.mp e).1
  refine⟨⟨by omega,by omega,?_⟩,ih1 u rfl,ih2 u' rfl⟩
  rw[F0];unfold bN;rw[e];rcases hk with rfl | rfl<;>rfl
theorem ve{rs:List (Nat×RV)}{f s:av}(hf:Wf rs s->Wf rs f):∀{pl:List Nat} {t:av},Sub pl t=some s->Wf rs t->Wf rs (e8 f pl t)
 | [],t,h,w=>by cases h;exact hf w
 |k::pl,t,h,w=>by
  unfold Sub at h
  unfold e8
  cases hj:t.ps[k]? with
  |none=>rw[hj]at h;cases h
  |some u=>
   rw[hj]at h
   obtain⟨w1,w2⟩:=(qT rs t).mp w
   have wu:=ve hf h (w2 u (FV hj))
   have hl:(t.ps.set k (e8 f pl u)).length<=2:=by rw[GF];exact t.plen
   refine(qT rs _).mpr ⟨?_,fun s hs=>?_⟩
   ·show 0<=(i6 t.i _).i/\_
    rw[vb,nv _ hl,GF]
    exact w1
   ·have hs:s∈(i6 t.i (t.ps.set k (e8 f pl u))).ps:=hs
    rw[nv _ hl]at hs
    rcases List.mem_or_eq_of_mem_set hs with h | h
    ·exact w2 s h
    ·rw[h];exact wu
theorem By.wf{rs:List (Nat×RV)}{ts:List av}{t t':av}{q:Int}(h:By ts t t' q)(hq:q=4\/q=5)(hts:∀f∈ts,Wf rs f)(w:Wf rs t):Wf rs t':=by
 obtain⟨pl,s,f,hs,rfl,hr⟩:=h
 refine ve (fun ws=>?_) hs w
 rcases hr with(⟨hf,_⟩ | ⟨h1,h2,_⟩ | ⟨h1,_⟩) | ⟨rfl,_⟩
 ·exact hts f hf
 ·obtain⟨w1,w2⟩:=(qT rs s).mp ws
  refine(qT rs f).mpr ⟨by rw[h1,h2,F8];exact w1,fun u hu=>w2 u ?_⟩
  rw[h2]at hu
  exact List.mem_reverse.mp hu
 ·omega
 ·exact ws
def av.nn(t:av):List Nat:=t.ns.map Int.toNat
theorem xh(t:av):t.nn=t.i.toNat::(t.ps.map av.nn).flatten:=by cases t<;>simp[av.nn,av.ns,av.i,av.ps]
theorem pU(t:av):t.nn.length=t.cnt:=by unfold av.nn;rw[FS,lA]
theorem Wf.ns{rs:List (Nat×RV)}:∀{t:av},Wf rs t->∀i∈t.ns,0<=i/\i<rs.length
 | .n0 i,w,j,hj=>by rw[FT.mp hj];exact⟨w.1,w.2.1⟩
 | .n1 i a,w,j,hj=>by
  rcases F6.mp hj with rfl | hj
  ·exact⟨w.1.1,w.1.2.1⟩
  ·exact Wf.ns w.2 j hj
 | .n2 i a b,w,j,hj=>by
  rcases F6.mp hj with rfl | hj
  ·exact⟨w.1.1,w.1.2.1⟩
  ·rcases F4.mp hj with hj | hj
   ·exact Wf.ns w.2.1 j hj
   ·exact Wf.ns w.2.2 j hj
theorem kc{rs:List (Nat×RV)}:∀(t:av) (ms:List Nat),Wf rs t->bO (bN rs) (t.nn++ms)=t.d::bO (bN rs) ms
 | .n0 i,ms,w=>by
  have e:(av.n0 i).nn=[i.toNat]:=rfl
  rw[e,List.singleton_append,bO,w.2.2,GK,GL,GI w.1]
  rfl
 | .n1 i a,ms,w=>by
  have e:(av.n1 i a).nn=i.toNat::a.nn:=rfl
  rw[e,List.cons_append,bO,kc a ms w.2,w.1.2.2,GI w.1.1]
  rfl
 | .n2 i a b,ms,w=>by
  have e:(av.n2 i a b).nn=i.toNat::(a.nn++b.nn):=by simp[av.nn,av.ns]
  rw[e,List.cons_append,bO,Gs,kc a _ w.2.1,kc b ms w.2.2,w.1.2.2,GI w.1.1]
  rfl
theorem A0{m n:Nat}(h:n<m)(hm:m<=100):dW m (i8 n)=some n:=by
 rw[jG n (by omega)]
 exact oH h hm rfl
theorem km{rs:List (Nat×RV)}(hr:rs.length<=100){n i d:Nat}{ws:List Str}{wt:List Nat}(hn:n<rs.length)(hi:i<200)(hd:d<=60):jM (bN rs) (dW rs.length) i (i8 n::ws) (wt++[d])=ik [n] (jM (bN rs) (dW rs.length) (i+1) ws (wt++List.replicate (bN rs n) (d+1))):=by
 have e:fe (bN rs) (dW rs.length) i (i8 n) (wt++[d])=some (n,wt++List.replicate (bN rs n) (d+1)):=by
  unfold fe
  rw[A0 hn hr,List.getLast?_concat]
  dsimp only
  rw[if_neg (by omega),List.dropLast_concat]
 rw[jM,e]
 dsimp only
 cases jM (bN rs) (dW rs.length) (i+1) ws (wt++List.replicate (bN rs n) (d+1))<;>rfl
theorem qB(a b:List Nat)(x:Nat ⊕ List Nat):ik a (ik b x)=ik (a++b) x:=by cases x<;>simp[ik]
theorem qL{rs:List (Nat×RV)}(hr:rs.length<=100):∀(t:av) (i d:Nat) (ws:List Str) (wt:List Nat),Wf rs t->i+t.cnt<=200->d+t.dep<=61->jM (bN rs) (dW rs.length) i (t.nn.map i8++ws) (wt++[d])=ik t.nn (jM (bN rs) (dW rs.length) (i+t.cnt) ws wt)
 | .n0 j,i,d,ws,wt,w,hi,hd=>by
  have e:(av.n0 j).nn=[j.toNat]:=rfl
  have h1:j.toNat<rs.length:=by have:=w.1;have:=w.2.1;omega
  have h2:(av.n0 j).cnt=1:=rfl
  have h3:(av.n0 j).dep=1:=rfl
  rw[e,Gk,List.map_nil,List.singleton_append,km hr h1 (by omega) (by omega),w.2.2,List.replicate_zero,Gq,h2]
 | .n1 j a,i,d,ws,wt,w,hi,hd=>by
  have e:(av.n1 j a).nn=j.toNat::a.nn:=rfl
  have h1:j.toNat<rs.length:=by have:=w.1.1;have:=w.1.2.1;omega
  have h2:(av.n1 j a).cnt=a.cnt+1:=rfl
  have h3:(av.n1 j a).dep=a.dep+1:=rfl
  have:=a.dep1
  rw[e,Gk,List.cons_append,km hr h1 (by omega) (by omega),w.1.2.2]
  show ik _ (jM _ _ (i+1) _ (wt++[d+1]))=_
  rw[qL hr a (i+1) (d+1) ws wt w.2 (by omega) (by omega),qB,h2,show i+1+a.cnt=i+(a.cnt+1) by omega]
  rfl
 | .n2 j a b,i,d,ws,wt,w,hi,hd=>by
  have e:(av.n2 j a b).nn=j.toNat::(a.nn++b.nn):=by simp[av.nn,av.ns]
  have h1:j.toNat<rs.length:=by have:=w.1.1;have:=w.1.2.1;omega
  have h2:(av.n2 j a b).cnt=a.cnt+b.cnt+1:=rfl
  have h3:(av.n2 j a b).dep=max a.dep b.dep+1:=rfl
  have:=a.dep1
  rw[e,Gk,List.cons_append,km hr h1 (by omega) (by omega),w.1.2.2]
  show ik _ (jM _ _ (i+1) _ (wt++[d+1,d+1]))=_
  have e2:wt++[d+1,d+1]=(wt++[d+1])++[d+1]:=by simp
  rw[e2,F3,Gs,qL hr a (i+1) (d+1) _ (wt++[d+1]) w.2.1 (by omega) (by omega),qL hr b (i+1+a.cnt) (d+1) ws wt w.2.2 (by omega) (by omega),qB,qB,h2,show i+1+a.cnt+b.cnt=i+(a.cnt+b.cnt+1) by omega]
  simp
def ib(t:av):List Nat:=SpM.glue 32 (t.nn.map fO)
theorem zK(n:Nat)(h:n<100):32∉fO n:=by
 unfold fO
 split<;>simp<;>omega
theorem tL(c:Nat){rows:List (List Nat)}(h:rows≠[])(hf:∀p∈rows,c∉p):SpM.parts c (SpM.glue c rows)=rows:=by
 obtain⟨h1,h2,h3⟩:=SpM.fold_spec c (SpM.glue c rows) [[]] (by simp) (by simp)
 have h3':SpM.glue c (SpM.parts c (SpM.glue c rows))=SpM.glue c rows:=by
  unfold SpM.parts
  rw[h3]
  simp[SpM.glue]
 exact SpM.glue_inj c h1 h h2 hf h3'
theorem Wf.nn{rs:List (Nat×RV)}{t:av}(w:Wf rs t):∀n∈t.nn,n<rs.length:=fun n hn=>by
 unfold av.nn at hn
 obtain⟨i,hi,rfl⟩:=GA.mp hn
 have:=w.ns i hi
 omega
theorem tI{rs:List (Nat×RV)}{t:av}(hr:rs.length<=100)(w:Wf rs t):dQ (ib t)=t.nn.map i8:=by
 unfold dQ ib
 rw[tL 32 (by rw[xh];simp) (fun p hp=>?_),F5]
 ·refine List.map_congr_left fun n hn=>?_
  have:=w.nn n hn
  exact(jG n (by omega)).symm
 ·obtain⟨n,hn,rfl⟩:=GA.mp hp
  have:=w.nn n hn
  exact zK n (by omega)
theorem vE{rs:List (Nat×RV)}{t:av}(hr:rs.length<=100)(w:Wf rs t)(hc:t.cnt<=200)(hd:t.dep<=60):jM (bN rs) (dW rs.length) 0 (dQ (ib t)) [1]=.inr t.nn:=by
 rw[tI hr w]
 have h:=qL hr t 0 1 [] [] w (by omega) (by omega)
 rw[Gq,GE]at h
 rw[h,jM,if_pos rfl]
 simp[ik]
theorem kr(n:Nat):(fO n).length<=2:=by unfold fO;split<;>simp
theorem wT(t:av):(ib t).length<=t.cnt*3:=by
 have:=SpM.glue_len 32 (rows:=t.nn.map fO) (n:=2) (fun r hr=>by obtain⟨n,_,rfl⟩:=GA.mp hr;exact kr n)
 rw[FS,pU]at this
 exact this
theorem Bf(x:Str):x=tx x.cps.toList:=by unfold tx;simp
theorem zu(p:List (List Nat)):Txt.join (Str.ofString " ") (p.map tx)=tx (SpM.glue 32 p):=by
 have e:(Txt.join (Str.ofString " ") (p.map tx)).cps.toList=SpM.glue 32 p:=by
  have h:=SpM.join_glue 32 (p.map tx)
  rw[F5]at h
  have e2:((fun y:Str=>y.cps.toList)∘tx)=id:=by funext r;exact fA r
  rw[e2,List.map_id]at h
  exact h
 rw[<- e]
 exact Bf _
theorem ow{n:Nat}:∀{ys:List Str},(∀r∈ys,r.length<=n)->(ys.map fun y:Str=>y.length).sum<=ys.length*n
 | [],_=>by simp
 |r::p,h=>by
  have h1:=h r (by simp)
  have h2:=ow (n:=n) (ys:=p) fun x hx=>h x (by simp[hx])
  simp only[Gk,List.sum_cons,F2]
  rw[Nat.succ_mul]
  omega
theorem AK{t:av}(h:∀i∈t.ns,0<=i/\i<100):t.ns.map (fun i=>V.str (Str.ofString (toString i)))=(t.nn.map fun n=>tx (fO n)).map V.str:=by
 unfold av.nn
 rw[F5,F5]
 refine List.map_congr_left fun i hi=>?_
 have hi:=h i hi
 obtain⟨n,rfl⟩:∃n:Nat,i=(n:Int):=⟨i.toNat,by omega⟩
 show V.str (i8 n)=V.str (tx (fO ((n:Int)).toNat))
 rw[F0,jG n (by omega)]
abbrev gj:Stmt:=h7 13
def ja:Sp:=fun vs H Q _=>∃(v:V) (t:av),vs=[v]/\aZ H t.d v/\t.dep<=60/\t.cnt<=1000/\(∀i∈t.ns,0<=i/\i<100)/\∀H',aq H H'->Q (.str (tx (ib t))) H'
theorem nY:aI ["tree"] ["tree"] (ao gj):=by walk_at "c"
theorem om{f:Addr}{fd:FuncData}(F:d9 K "shown_tree" "shown_tree" gj f fd)(nb:NB mg)(c_numbers_in:fP P w K mg base bL 61 "numbers_in" ["tree"] (fM 60)):bb P w K mg base bL 62 f fd ["tree"] ja:=by
 have sc:=nY
 walk_at "f"
 ·obtain⟨v,t,rfl,_⟩:=h;rfl
 ·obtain⟨v,t,rfl,ht,hd,hc,hns,q⟩:=h
  refine⟨_,(ah (aL (dm PySem.F.plainAttrs_str PySem.F.slot_str_join PySem.F.type_str_join mr cV (aa (cF ["number"] [] rfl (bz.of (by kernel_rfl)) (by kernel_rfl) (cC (aP c_numbers_in (hr.mono (by decide)) rfl a_ (aa (pv 0) ae)))
    (fun _ _ _ _=>(aF (i:=0) (by show(["number"]:List Str).Nodup;decide +kernel) rfl (Or.inl rfl))) (fun _ _ _ _=>bU) (fun _ _ _ _=>(dI gX rfl nb.str pT (aa (pv 0) ae)))) ae)))),?_⟩
  have hlen:=lA t
  walk_at "wp"
  refine⟨rfl,v,t,rfl,ht,hd,hc,fun l H1 hl0 hl s1=>⟨l,rfl,⟨_,aT.of hl⟩,?_⟩⟩
  refine jl (as:=t.ns) (emb:=V.int) (f:=fun i=>some (V.str (Str.ofString (toString i)))) (fun σ=>∃z,σ=[z]) ⟨_,rfl⟩ (fun H' s=>aT.of (s _ _ hl)) (by omega) ?_ ?_
  ·rintro j i hj σ H' N1 N0 ⟨z0,rfl⟩ s3 k1 _
   obtain⟨hi0,hi1⟩:=hns i (FV hj)
   obtain⟨n,rfl⟩:∃n:Nat,i=(n:Int):=⟨i.toNat,by omega⟩
   walk_at "wp"
   exact⟨qb (by omega),k1 _ _ _ rfl s3 ⟨_,rfl⟩⟩
  ·intro H3 s3 l2 hl2
   rw[qM t.ns _ (g:=fun i=>V.str (Str.ofString (toString i))) (fun _ _=>rfl),AK hns]
   refine⟨t.nn.map fun n=>tx (fO n),.inl (aT.of ac),?_,?_⟩
   ·have:=ow (ys:=t.nn.map fun n=>tx (fO n)) (n:=2) fun r hr=>by
     obtain⟨n,_,rfl⟩:=GA.mp hr
     rw[aA];exact kr n
    rw[FS,pU]at this
    have e0:(Str.ofString " ").length=1:=rfl
    rw[FS,pU,e0]
    omega
   ·have e:Txt.join (Str.ofString " ") (t.nn.map fun n=>tx (fO n))=tx (ib t):=by
     unfold ib
     rw[<- zu,F5]
     rfl
    rw[e]
    exact q _ ((s1.trans s3).trans (ad hl2))
theorem AO{row:List Nat}(h:1<=row.length):Txt.slice (tx row) (some 1) none=tx (row.drop 1):=by
 rw[vT,show(some 1:Option Int)=some ((1:Nat):Int) from rfl,HT.sIx_nat,HT.sIx_none,GJ h,List.take_of_length_le (by simp)]
theorem ql(r s:List Nat):tx r++tx s=tx (r++s):=by
 show(⟨_++_⟩:Str)=⟨_⟩
 simp[tx]
def dA(ns:List Nat):List Nat:=ns.flatMap fun n=>32::fO n
theorem nk:∀(n:Nat) (ns:List Nat),dA (n::ns)=32::SpM.glue 32 ((n::ns).map fO)
 |n,[]=>by simp[dA,SpM.glue]
 |n,m::ns=>by
  have h:=nk m ns
  have e:dA (n::m::ns)=(32::fO n)++dA (m::ns):=by simp[dA]
  rw[e,h]
  simp[SpM.glue]
theorem li:∀(ns:List Nat),(dA ns).length<=ns.length*3
 | []=>by simp[dA]
 |n::ns=>by
  have:=li ns
  have:=kr n
  have e:dA (n::ns)=(32::fO n)++dA ns:=by simp[dA]
  rw[e]
  simp
  omega
theorem vH(xs ys:List Nat):dA (xs++ys)=dA xs++dA ys:=by unfold dA;rw[List.flatMap_append]
structure TP where
 v:V
 t:av
def eG(xs:List TP):Nat:=(xs.map fun x=>x.t.cnt).sum
theorem fR(xs ys:List TP):eG (xs++ys)=eG xs+eG ys:=by unfold eG;rw[F3,List.sum_append]
theorem jO(x:TP):eG [x]=x.t.cnt:=by unfold eG;simp
theorem rW(xs:List TP):eG xs.reverse=eG xs:=by unfold eG;rw[List.map_reverse,List.sum_reverse]
theorem iy:∀(xs:List TP),xs.length<=eG xs
 | []=>by simp[eG]
 |x::xs=>by have:=iy xs;have:=x.t.cnt1;unfold eG at *;simp;omega
theorem pK{H:Hp}:∀{ds:List av} {vs:List V},aD H (ds.map av.d) vs->∃xs:List TP,xs.map TP.v=vs/\xs.map TP.t=ds/\∀x∈xs,aZ H x.t.d x.v
 | [],vs,h=>by rw[List.map_nil]at h;unfold aD at h;subst h;exact⟨[],rfl,rfl,fun _ h=>nomatch h⟩
 |d::ds,vs,h=>by
  obtain⟨y,r,rfl,h1,h2⟩:=h.uncons
  obtain⟨xs,e1,e2,h3⟩:=pK h2
  refine⟨⟨y,d⟩::xs,by simp[e1],by simp[e2],fun x hx=>?_⟩
  rcases F6.mp hx with rfl | hx
  ·exact h1
  ·exact h3 x hx
theorem pA{xs:List TP}{t:av}(h:xs.map TP.t=t.ps):eG xs+1=t.cnt:=by
 rw[t.cnt_eq,<- h,F5]
 unfold eG
 have:(xs.map fun x=>x.t.cnt)=xs.map (av.cnt∘TP.t):=rfl
 rw[this]
 omega
theorem o5{c:TT}{tb:TS}{D:ip}{σ:St}{H:Hp}(h:∀tb',tb'=tb->sI c tb' D σ H):sI c tb D σ H:=h tb rfl
def i'(xs:List TP):List Nat:=(xs.map fun x=>x.t.nn).flatten
def D8(H:Hp)(v:V)(t:av)(ll:Addr)(m:Nat)(σ:St)(H':Hp):Prop:=aq H H'/\(∃(xs:List TP) (dn:List Nat),H' ll=some (.lst (xs.map TP.v))/\(∀x∈xs,aZ H' x.t.d x.v/\(∀i∈x.t.ns,0<=i/\i<100))/\dn++i' xs.reverse=t.nn/\m=eG xs/\dn.length+eG xs<=1000/\∃z,σ=[some v,some (V.str (tx (dA dn))),some (V.ref ll),z])
abbrev nN:Stmt:=h7 63
def oG:Sp:=fun vs H Q _=>∃(v:V) (t:av),vs=[v]/\aZ H t.d v/\t.cnt<=1000/\(∀i∈t.ns,0<=i/\i<100)/\∀H',aq H H'->Q (.str (tx (ib t))) H'
theorem vo:aI ["_law_tree","_law_text_here","_law_left","_law_here"] ["_law_tree"] (ao nN):=by walk_at "c"
theorem wI{f:Addr}{fd:FuncData}(F:d9 K "_law_text" "_law_text" nN f fd)(nb:NB mg):bb P w K mg base bL 1 f fd ["_law_tree"] oG:=by
 have sc:=vo
 walk_at "f"
 ·obtain⟨v,t,rfl,_⟩:=h;rfl
 ·obtain⟨v,t,rfl,ht,hc,hns,q⟩:=h
  refine⟨_,(af (ay (i:=1) sc.nd rfl (Or.inl rfl) cV)
   (af (ay (i:=2) sc.nd rfl (Or.inl rfl) (bf (aa (pv 0) ae)))
   (af (m8 PassesOwn.never (aB hJ (au aO rfl nb.len aR (aa (pv 2) ae)) ag (aK _)) (af (ay (i:=3) sc.nd rfl (Or.inl rfl) (mO PySem.F.plainAttrs_list PySem.F.slot_list_pop PySem.F.type_list_pop nS (pv 2)))
   (af (ay (i:=1) sc.nd rfl (Or.inl rfl) (am jt (am jt (pv 1) cV) (dI gX rfl nb.str pT (aa (aC aN (pv 3) ag (fun _ _=>rfl)) ae))))
   (ah (bE (dm PySem.F.plainAttrs_list PySem.F.slot_list_extend PySem.F.type_list_extend pz (pv 2) (aa (m9 rfl (bH kE (pv 3) (bT ag) bV) rfl nb.list rfl nb.reversed) ae)))))))
   (ah (aL (bH Bk (pv 1) (bT ag) bV)))))),?_⟩
  walk_at "n"
  refine h1 _ _ ?_
  walk_at "nc"
  refine⟨ak (by decide),fun ll hll=>h1 _ _ ?_⟩
  clear h1
  have s1:=ad (o:=.lst [v]) hll
  have e1:ap H ll (.lst [v]) ll=some (.lst [v]):=ac
  generalize ap H ll (.lst [v])=H1 at s1 e1 ⊢
  refine ai fun N1 h1=>?_
  refine o5 fun tb etb=>?_
  refine⟨D8 H v t ll,⟨_,s1,⟨[⟨v,t⟩],[],e1,fun x hx=>?_,?_,rfl,?_,_,rfl⟩⟩,?_⟩
  ·rw[FT.mp hx]
   exact⟨ht.up (bp.of s1) _,hns⟩
  ·simp[i']
  ·rw[jO];simpa using hc
  rintro m σ H' ⟨sm,xs,dn,hl',hxs,hdn,rfl,hcnt,z,rfl⟩
  have hxl:=iy xs
  walk_at "wp"
  refine⟨_,aT.of hl',?_⟩
  rw[FS]
  rcases List.eq_nil_or_concat xs with rfl | ⟨ys,x,hyx⟩
  ·rw[if_neg (by simp)]
   refine h1 _ _ ?_
   walk_at "wp"
   have hdn':dn=t.nn:=by
    have h:dn++[]=t.nn:=hdn
    rwa [Gq]at h
   subst hdn'
   have hb:=li t.nn
   rw[pU]at hb
   obtain⟨n,ns,hn⟩:∃n ns,t.nn=n::ns:=⟨_,_,xh t⟩
   have hg:=nk n ns
   rw[<- hn]at hg
   refine⟨by rw[aA];exact ak (by omega),?_⟩
   rw[AO (by rw[hg];simp),hg]
   exact q H' sm
  rw[GM]at hyx
  subst hyx
  rw[if_pos (by simp)]
  refine⟨fun σ2 H2=>∃m',m'<eG (ys++[x])/\D8 H v t ll m' σ2 H2,fun σ' H' h=>h,?_⟩
  rw[etb]
  clear etb
  obtain⟨hxt,hxn⟩:=hxs x (by simp)
  have lst1:((ys++[x]).map TP.v)[((ys++[x]).map TP.v).length-1]?=some x.v:=by simp
  have lst2:((ys++[x]).map TP.v).dropLast=ys.map TP.v:=by rw[F3];simp
  walk_at "o"
  refine⟨.inl ⟨rfl,_,aT.of hl'⟩,_,hl',_,lst1,h2 _ _ ?_⟩
  clear h2
  rw[lst2]
  have n2:bp H' (ap H' ll (.lst (ys.map TP.v))):=bp.put hl'
  have l2:ap H' ll (.lst (ys.map TP.v)) ll=some (.lst (ys.map TP.v)):=ac
  have s2:aq H (ap H' ll (.lst (ys.map TP.v))):=aX sm (d_ (aq.refl _) hll)
  generalize ap H' ll (.lst (ys.map TP.v))=H2 at n2 l2 s2 ⊢
  obtain⟨a,vs,hva,hta,htr⟩:=av.val (hxt.up n2 _)
  rw[hva]
  have hi:=hxn x.t.i (by rw[uR];simp)
  obtain⟨n,hn⟩:∃n:Nat,x.t.i=(n:Int):=⟨x.t.i.toNat,by omega⟩
  rw[hn]at hta
  walk_at "o"
  have hdl:=li dn
  have hcx:eG (ys++[x])=eG ys+x.t.cnt:=by rw[fR,jO]
  rw[hcx]at hcnt
  have en:Str.ofString (toString ((n:Nat):Int))=tx (fO n):=jG n (by omega)
  have eb:Str.ofString " "=tx [32]:=by decide +kernel
  have hR:=kr n
  refine⟨?_,_,bq.of hta,_,uI _ _,_,rfl,qb (by omega),?_,h2 _ _ ?_⟩
  ·rw[eb,aA,aA];exact ak (by simp;omega)
  ·rw[en,eb,ql,aA,aA];exact ak (by simp;omega)
  clear h2
  have et:tx (dA dn)++Str.ofString " " ++ Str.ofString (toString ((n:Nat):Int))=tx (dA (dn++[n])):=by
   rw[en,eb,ql,ql,vH]
   simp[dA]
  rw[et]
  have hvl:=parts_len htr
  have hps:=x.t.plen
  walk_at "wp"
  refine⟨.inl ⟨rfl,_,aT.of l2⟩,_,bq.of hta,qr _ _,fun p hp=>?_⟩
  rw[vN]
  have s3:=ad (o:=.tup vs) hp
  have e3:ap H2 p (.tup vs) p=some (.tup vs):=ac
  generalize ap H2 p (.tup vs)=H3 at s3 e3 ⊢
  refine⟨_,bq.of e3,fun p2 hp2=>?_⟩
  have s4:=ad (o:=.lst vs.reverse) hp2
  have e4:ap H3 p2 (.lst vs.reverse) p2=some (.lst vs.reverse):=ac
  generalize ap H3 p2 (.lst vs.reverse)=H4 at s4 e4 ⊢
  have l4:=s4 _ _ (s3 _ _ l2)
  have hys:=iy ys
  obtain⟨ks,hk1,hk2,hk3⟩:=pK htr
  have hkc:=pA hk2
  have s24:=s3.trans s4
  refine⟨_,l4,_,e4,by rw[FS,F8];exact ak (by omega),_,?_,aX (s2.trans s24) hll,ys++ks.reverse,dn++[n],by rw[ac,<- hk1,F3,List.map_reverse],fun y hy=>?_,?_,rfl,?_,_,rfl⟩
  ·rw[hcx,fR,rW];omega
  ·have t4:bp H2 (ap H4 ll (.lst (ys.map TP.v++vs.reverse))):=bp.trans (bp.of s24) (bp.put l4)
   rcases F4.mp hy with h | h
   ·exact⟨((hxs y (by simp[h])).1.up n2 _).up t4 _,(hxs y (by simp[h])).2⟩
   ·have hy':=List.mem_reverse.mp h
    refine⟨(hk3 y hy').up t4 _,fun i hi=>hxn i ?_⟩
    rw[uR,<- hk2]
    refine F7 _ (List.mem_flatten.mpr ⟨y.t.ns,?_,hi⟩)
    rw[F5]
    exact GA.mpr ⟨y,hy',rfl⟩
  ·rw[<- hdn]
   have e5:i' (ys++[x]).reverse=x.t.nn++i' ys.reverse:=by simp[i']
   have e6:i' (ys++ks.reverse).reverse=i' ks++i' ys.reverse:=by simp[i']
   have e7:x.t.nn=n::i' ks:=by
    rw[xh,hn,F0,<- hk2,F5]
    rfl
   rw[e5,e6,e7]
   simp
  ·rw[fR,rW,Gb]
   simp only[List.length_singleton]
   omega
def DU(H:Hp)(v:V)(ll:Addr)(m:Nat)(σ:St)(H':Hp):Prop:=aq H H'/\∃(xs:List TP),H' ll=some (.lst (xs.map TP.v))/\(∀x∈xs,aZ H' x.t.d x.v)/\m=eG xs/\eG xs<=1000/\∃z,σ=[some v,some (V.ref ll),z]
abbrev iD:Stmt:=h7 64
def ka:Sp:=fun vs H Q _=>∃(v:V) (t:av),vs=[v]/\aZ H t.d v/\t.cnt<=1000/\∀H',aq H H'->Q (.bl true) H'
theorem pG:aI ["_law_found","_law_left","_law_here"] ["_law_found"] (ao iD):=by walk_at "c"
theorem qw{f:Addr}{fd:FuncData}(F:d9 K "_law_is_tree" "_law_is_tree" iD f fd)(nb:NB mg)(zlc:fP P w K mg base bL 1 "_law_whole" ["_law_found"] ny):bb P w K mg base bL 2 f fd ["_law_found"] ka:=by
 have sc:=pG
 walk_at "f"
 ·obtain⟨v,t,rfl,_⟩:=h;rfl
 ·obtain⟨v,t,rfl,ht,hc,q⟩:=h
  refine⟨_,(af (ay (i:=1) sc.nd rfl (Or.inl rfl) (bf (aa (pv 0) ae)))
   (af (m8 PassesOwn.never (aB hJ (au aO rfl nb.len aR (aa (pv 1) ae)) ag (aK _)) (af (ay (i:=2) sc.nd rfl (Or.inl rfl) (mO PySem.F.plainAttrs_list PySem.F.slot_list_pop PySem.F.type_list_pop nS (pv 1)))
   (af (bd (PW.pt (g9 (gN (iq (au bX rfl nb.isinstance cS (aa (pv 2) (aa (mh (v:=.ty "tuple") rfl nb.tuple nh rfl) ae))) fun _=>rfl)) (g9 (aB nM (au iU rfl nb.len aR (aa (pv 2) ae)) ag (aK _)) (fQ (gN (iq (aP zlc (hr.mono (by decide)) rfl a_ (aa (aC aN (pv 2) ag (fun _ _=>rfl)) ae)) fun _=>rfl))))))
   (ah (aL oS))
   aM)
   (ah (bE (dm PySem.F.plainAttrs_list PySem.F.slot_list_extend PySem.F.type_list_extend t_ (pv 1) (aa (bH kE (pv 2) (bT ag) bV) ae)))))))
   (ah (aL oS)))),?_⟩
  walk_at "n"
  refine⟨ak (by decide),fun ll hll=>h1 _ _ ?_⟩
  clear h1
  have s1:=ad (o:=.lst [v]) hll
  have e1:ap H ll (.lst [v]) ll=some (.lst [v]):=ac
  generalize ap H ll (.lst [v])=H1 at s1 e1 ⊢
  refine ai fun N1 h1=>?_
  refine o5 fun tb etb=>?_
  refine⟨DU H v ll,⟨_,s1,[⟨v,t⟩],e1,fun x hx=>?_,rfl,?_,_,rfl⟩,?_⟩
  ·rw[FT.mp hx]
   exact ht.up (bp.of s1) _
  ·rw[jO];exact hc
  rintro m σ H' ⟨sm,xs,hl',hxs,rfl,hcnt,z,rfl⟩
  have hxl:=iy xs
  walk_at "wp"
  refine⟨_,aT.of hl',?_⟩
  rw[FS]
  rcases List.eq_nil_or_concat xs with rfl | ⟨ys,x,hyx⟩
  ·rw[if_neg (by simp)]
   refine h1 _ _ ?_
   walk_at "wp"
   exact q H' sm
  rw[GM]at hyx
  subst hyx
  rw[if_pos (by simp)]
  refine⟨fun σ2 H2=>∃m',m'<eG (ys++[x])/\DU H v ll m' σ2 H2,fun σ' H' h=>h,?_⟩
  rw[etb]
  clear etb
  have hxt:=hxs x (by simp)
  have lst1:((ys++[x]).map TP.v)[((ys++[x]).map TP.v).length-1]?=some x.v:=by simp
  have lst2:((ys++[x]).map TP.v).dropLast=ys.map TP.v:=by rw[F3];simp
  walk_at "o"
  refine⟨.inl ⟨rfl,_,aT.of hl'⟩,_,hl',_,lst1,h2 _ _ ?_⟩
  clear h2
  rw[lst2]
  have n2:bp H' (ap H' ll (.lst (ys.map TP.v))):=bp.put hl'
  have l2:ap H' ll (.lst (ys.map TP.v)) ll=some (.lst (ys.map TP.v)):=ac
  have s2:aq H (ap H' ll (.lst (ys.map TP.v))):=aX sm (d_ (aq.refl _) hll)
  generalize ap H' ll (.lst (ys.map TP.v))=H2 at n2 l2 s2 ⊢
  obtain⟨a,vs,hva,hta,htr⟩:=av.val (hxt.up n2 _)
  rw[hva]
  have hvl:=parts_len htr
  have hps:=x.t.plen
  walk_at "o"
  refine⟨_,h_.tup hta,true,mY K _,?_⟩
  rw[if_neg (by decide)]
  refine⟨_,bq.of hta,?_⟩
  rw[if_neg (by simp;omega)]
  refine⟨_,bq.of hta,_,uI _ _,_,rfl,true,rfl,?_⟩
  rw[if_neg (by decide)]
  refine h2 _ _ ?_
  clear h2
  walk_at "wp"
  refine⟨.inl ⟨rfl,_,aT.of l2⟩,_,bq.of hta,qr _ _,fun p hp=>?_⟩
  rw[vN]
  have s3:=ad (o:=.tup vs) hp
  have e3:ap H2 p (.tup vs) p=some (.tup vs):=ac
  generalize ap H2 p (.tup vs)=H3 at s3 e3 ⊢
  have l3:=s3 _ _ l2
  have hys:=iy ys
  have hcx:eG (ys++[x])=eG ys+x.t.cnt:=by rw[fR,jO]
  obtain⟨ks,hk1,hk2,hk3⟩:=pK htr
  have hkc:=pA hk2
  rw[hcx]at hcnt
  refine⟨_,l3,_,bq.of e3,by rw[FS,hvl];exact ak (by omega),_,?_,aX (s2.trans s3) (d_ (aq.refl _) hll),ys++ks,by rw[ac,<- hk1,F3],fun y hy=>?_,rfl,by rw[fR];omega,_,rfl⟩
  ·rw[hcx,fR];omega
  ·have t4:bp H2 (ap H3 ll (.lst (ys.map TP.v++vs))):=bp.trans (bp.of s3) (bp.put l3)
   rcases F4.mp hy with h | h
   ·exact((hxs y (by simp[h])).up n2 _).up t4 _
   ·exact(hk3 y h).up t4 _
abbrev mE:Stmt:=h7 65
structure Ce(rs:List (Nat×RV))(t:av):Prop where
 wf:Wf rs t
 c:t.cnt<=180
 d:t.dep<=36
def kM(R:RC)(CG:Addr):Sp:=fun vs H Q _=>∃(g gd:Addr) (v:V) (sg st:List Nat) (ga:List Addr) (rs:List (Nat×RV)) (t:av),vs=[.ref g,v]/\iB R H CG gd g sg st ga rs/\rs.length<=24/\aZ H t.d v/\Ce rs t/\∀H',aq H H'->Q (.bl true) H'
theorem vU:aI ["_law_grammar_here","_law_tree","_law_text_here","_law_found","_law_turn","_law_reread"] ["_law_grammar_here","_law_tree"] (ao mE):=by walk_at "c"
theorem uK:∀(t:av),Dt.deps (.int t.i::t.ps.map av.d)<=t.dep
 | .n0 i=>by simp[av.i,av.ps,Dt.deps,Dt.dep]
 | .n1 i a=>by
  have h:=uK a
  have e:a.d=.tup (.int a.i::a.ps.map av.d):=a.d_eq
  have e2:Dt.dep a.d=Dt.deps (.int a.i::a.ps.map av.d)+1:=by rw[e,Dt.dep]
  simp only[av.i,av.ps,Gk,List.map_nil,Dt.deps,av.dep]
  rw[e2]
  simp[Dt.dep]
  omega
 | .n2 i a b=>by
  have h:=uK a
  have h':=uK b
  have e2:Dt.dep a.d=Dt.deps (.int a.i::a.ps.map av.d)+1:=by rw[a.d_eq,Dt.dep]
  have e3:Dt.dep b.d=Dt.deps (.int b.i::b.ps.map av.d)+1:=by rw[b.d_eq,Dt.dep]
  simp only[av.i,av.ps,Gk,List.map_nil,Dt.deps,av.dep]
  rw[e2,e3]
  simp[Dt.dep]
  omega
theorem vR{R:RC}{f CG CF:Addr}{fd:FuncData}(F:d9 K "_law_good" "_law_good" mE f fd)(nb:NB mg)(zMc:fP P w K mg base bL 1 "_law_text" ["_law_tree"] oG)(c_shown_tree:fP P w K mg base bL 62 "shown_tree" ["tree"] ja)(c_read_tree:fP P w K mg base (dP P w) 4 "read_tree" ["grammar","text"] (j0 R CG CF))(zcb:fP P w K mg base bL 2 "_law_is_tree" ["_law_found"] ka):bb P w K mg base bL 63 f fd ["_law_grammar_here","_law_tree"] (kM R CG):=by
 have sc:=vU
 walk_at "f"
 ·obtain⟨g,gd,v,sg,st,ga,rs,t,rfl,_⟩:=h;rfl
 ·obtain⟨g,gd,v,sg,st,ga,rs,t,rfl,hG,h24,ht,hy,q⟩:=h
  have hu:=hr.units
  refine⟨_,(af (ay (i:=2) sc.nd rfl (Or.inl rfl) (aP zMc (hr.mono (by decide)) rfl a_ (aa (pv 1) ae)))
   (af (ay (i:=3) sc.nd rfl (Or.inl rfl) (aP c_shown_tree (hr.mono (by decide)) rfl a_ (aa (pv 1) ae)))
   (af (bd (PW.pt (g9 (gN (iq (au bX rfl nb.isinstance cS (aa (pv 3) (aa (mh (v:=.ty "str") rfl nb.str pT rfl) ae))) fun _=>rfl)) (fQ (aB uO (pv 3) (pv 2) (aK _)))))
   (ah (aL oS))
   aM)
   (af (bD PassesOwn.never rfl (bR rfl nb.range (br ae)) (aF (i:=4) sc.nd rfl (Or.inl rfl))
   (af (ay (i:=5) sc.nd rfl (Or.inl rfl) (aP (CX:=dP P w) c_read_tree (hr.mono (by decide)) rfl bJ (aa (pv 0) (aa (pv 2) ae))))
   (ah (bd (PW.pt (g9 (gN (iq (aP zcb (hr.mono (by decide)) rfl a_ (aa (pv 5) ae)) fun _=>rfl)) (fQ (aB (w8 hu) (pv 5) (pv 1) (aK _)))))
   (ah (aL oS))
   aM))))
   (ah (aL oS)))))),?_⟩
  have hns:∀i∈t.ns,0<=i/\i<100:=fun i hi=>by have:=hy.wf.ns i hi;omega
  have hc:=hy.c
  have hd:=hy.d
  walk_at "n"
  refine⟨v,t,rfl,ht,by omega,hns,fun H1 s1=>h1 _ _ ?_⟩
  walk_at "nc"
  refine⟨v,t,rfl,ht.up (bp.of s1) _,by omega,by omega,hns,fun H2 s2=>h1 _ _ ?_⟩
  clear h1
  have s02:=s1.trans s2
  walk_at "n"
  refine⟨_,h_.str _,true,mY K _,?_⟩
  rw[if_neg (by decide),if_neg (fun h=>h trivial)]
  refine h1 _ _ ?_
  clear h1
  have hgo:=vE (by omega) hy.wf (by omega) (by omega)
  have hz:=wT t
  have hpile:=kc t [] hy.wf
  rw[Gq]at hpile
  have hG2:=hG.up s02
  have ht2:=ht.up (bp.of s02) _
  walk_at "n"
  refine⟨by decide,?_⟩
  refine eY (lo:=0) (n:=2) (fun i σ H'=>aq H2 H'/\∃z1 z2,σ=[some (V.ref g),some v,some (V.str (tx (ib t))),some (V.str (tx (ib t))),z1,z2]) ⟨aq.refl _,_,_,rfl⟩ ?_ ?_
  ·rintro i σ H' hi ⟨sm,z1,z2,rfl⟩
   walk_at "o"
   refine⟨g,gd,sg,st,ga,rs,ib t,rfl,hG2.up sm,by omega,by omega,(fun j hj=>by rw[hgo]at hj;cases hj),fun ns hns d u H3 hp hu s3=>h2 _ _ ?_⟩
   clear h2
   rw[hgo]at hns
   cases hns
   rw[hpile]at hp
   have hdd:t.d=d:=(List.cons.inj hp).1
   subst hdd
   walk_at "wp"
   refine⟨u,t,rfl,hu,by omega,fun H4 s4=>⟨true,rfl,?_⟩⟩
   rw[if_neg (by decide)]
   have s34:=(sm.trans s3).trans s4
   refine .inl ⟨.int t.i::t.ps.map av.d,by have:=uK t;omega,.inr ⟨?_,?_⟩,?_⟩
   ·rw[<- t.d_eq];exact aZ.rd _ (hu.up (bp.of s4) _)
   ·rw[<- t.d_eq];exact aZ.rd _ (ht2.up (bp.of s34) _)
   ·refine⟨false,rfl,?_⟩
    rw[if_neg (by decide)]
    exact s34
  ·rintro σ H' ⟨sm,z1,z2,rfl⟩
   refine h1 _ _ ?_
   walk_at "wp"
   exact q H' (s02.trans sm)
abbrev iV:Stmt:=nc 6 0
theorem wU:aI ["self","at"] ["self","at"] (ao iV):=by walk_at "c"
theorem yh{f C:Addr}{fd:FuncData}(F:d9 K "__init__" "NoWord.__init__" iV f fd)(xs:W.XSt K C "at"):bb P w K mg base bL 1 f fd ["self","at"] (jP C "at"):=by
 have sc:=wU
 walk_at "f"
 ·obtain⟨a,v,rfl,_⟩:=h;rfl
 ·obtain⟨a,v,rfl,ha,q⟩:=h
  refine⟨_,(ah (uE (pv 0) (pv 1) rfl)),?_⟩
  walk_at "wp"
  exact⟨C,ha,xs,fun d hd=>q d hd⟩
theorem vd{rs:List (Nat×RV)}{p:bS}{x:SI}(h:j1 rs p x):∃t:av,x.d=t.d/\t.dep<=18/\t.cnt<=60/\Wf rs t:=by
 obtain⟨t,ht,hd⟩:=h.gr.tre
 have h1:=h.m1
 have h2:=h.m2
 rw[ht,uH]at h1
 have h3:=h.k1
 exact⟨t,ht,by omega,by omega,h.gr.wf t ht⟩
theorem rZ{rs:List (Nat×RV)}{p:bS}:∀{xs:List SI},(∀x∈xs,j1 rs p x)->∃ts:List av,(∀x∈xs,∃t∈ts,x.d=t.d)/\∀t∈ts,(t.dep<=18/\t.cnt<=60)/\Wf rs t
 | [],_=>⟨[],fun _ h=>(nomatch h),fun _ h=>(nomatch h)⟩
 |x::xs,h=>by
  obtain⟨ts,h1,h2⟩:=rZ (xs:=xs) fun y hy=>h y (by simp[hy])
  obtain⟨t,e,h3,h4,h5⟩:=vd (h x (by simp))
  refine⟨t::ts,fun y hy=>?_,fun u hu=>?_⟩
  ·rcases F6.mp hy with rfl | hy
   ·exact⟨t,by simp,e⟩
   ·obtain⟨u,hu,e⟩:=h1 y hy
    exact⟨u,by simp[hu],e⟩
  ·rcases F6.mp hu with rfl | hu
   ·exact⟨⟨h3,h4⟩,h5⟩
   ·exact h2 u hu
abbrev pw:Stmt:=h7 66
def qD(K:W.Frag):Sp:=fun vs H Q _=>∃(a:Addr) (ns:List Int),vs=[.ref a]/\aT K H a (ns.map V.int)/\∀H',Q (.bl true) H'
theorem Ax:aI ["_law_script","_law_rules","_law_stock","_law_grammar_here","_law_tree","_law_cell_here","_law_spoilt_here"] ["_law_script"] (ao pw):=by walk_at "c"
theorem AY{R:RC}{f CG:Addr}{fd:FuncData}(F:d9 K "law" "law" pw f fd)(nb:NB mg)(zoa:fP P w K mg base bL 1 "_law_cell" ["_law_script","_law_k"] (lx K))(zmc:fP P w K mg base bL 8 "_law_drawn" ["_law_script","_law_most","_law_steps"] (nP K R CG))(zBb:fP P w K mg base bL 63 "_law_spoilt" ["_law_tree","_law_cell_here","_law_rules","_law_stock"] (lP K))(zTa:fP P w K mg base bL 63 "_law_good" ["_law_grammar_here","_law_tree"] (kM R CG)):bb P w K mg base bL 64 f fd ["_law_script"] (qD K):=by
 have sc:=Ax
 walk_at "f"
 ·obtain⟨a,ns,rfl,_⟩:=h;rfl
 ·obtain⟨a,ns,rfl,ha,q⟩:=h
  refine⟨_,(af (ld (aP zmc (hr.mono (by decide)) rfl a_ (aa (pv 0) (br (br ae)))) (im (n:=3) rfl (bj (aF (i:=1) sc.nd rfl (Or.inl rfl)) (bj (aF (i:=2) sc.nd rfl (Or.inl rfl)) (bj (aF (i:=3) sc.nd rfl (Or.inl rfl)) eM)))))
   (af (ay (i:=4) sc.nd rfl (Or.inl rfl) (aC aN (aC bc (pv 2) (am aQ (aP zoa (hr.mono (by decide)) rfl a_ (aa (pv 0) (br ae))) (au aO rfl nb.len aR (aa (pv 2) ae))) (fun _ _=>rfl)) ag (fun _ _=>rfl)))
   (af (bd (gN (iq (aP zTa (hr.mono (by decide)) rfl a_ (aa (pv 3) (aa (pv 4) ae))) fun _=>rfl))
   (ah (aL oS))
   aM)
   (af (ay (i:=5) sc.nd rfl (Or.inl rfl) (aP zoa (hr.mono (by decide)) rfl a_ (aa (pv 0) (br ae))))
   (af (ay (i:=6) sc.nd rfl (Or.inl rfl) (aP zBb (hr.mono (by decide)) rfl a_ (aa (pv 4) (aa (am bt (am bt (am dD (am aU (pv 5) ag) ag) (am aQ (pv 5) ag)) (am dD ag (am bt ag (am aQ (am aU (pv 5) ag) ag)))) (aa (pv 1) (aa (pv 2) ae))))))
   (ah (aL (mF (aP zTa (hr.mono (by decide)) rfl a_ (aa (pv 3) (aa (pv 6) ae))) (qm (aP zTa (hr.mono (by decide)) rfl a_ (aa (pv 3) (aa (pv 4) ae)))))))))))),?_⟩
  walk_at "n"
  refine⟨a,ns,36,16,rfl,ha,by decide,by decide,by decide,fun tp lr ls gr gd ga ts rs p sg st as xs H1 htp hR hro h24 hp hpn hsg hp0 hst hin hgood hx0 hxl hG s1=>⟨tp,rfl,_,bq.of htp,rfl,_,_,rfl,_,_,rfl,_,_,rfl,rfl,h1 _ _ ?_⟩⟩
  clear h1
  obtain⟨trs,htrs,htrs2⟩:=rZ hgood
  have stk:r9 H1 ls as xs trs:=⟨hst,hin,hx0,hxl,htrs⟩
  have hxp:0<xs.length:=by cases xs with | nil=>exact absurd rfl hx0 | cons=>simp
  walk_at "n"
  refine⟨a,ns,3,rfl,s1.seq ha,by omega,fun c3=>?_⟩
  obtain⟨jx,hjx,ejx⟩:=l9 c3 hxp
  obtain⟨ax,x,hax,hxx,vt,lp,hA,htx,_⟩:=hin.got hjx
  have hgx:=hgood x (FV hxx)
  obtain⟨t,hxd,htd,htc,htw⟩:=vd hgx
  rw[hxd]at htx
  refine⟨_,aT.of hst,c3,rfl,by rw[FS,hin.1];omega,_,aT.of hst,V.ref ax,?_,ax,rfl,_,bq.of hA,vt,rfl,h1 _ _ ?_⟩
  ·rw[FS,hin.1,ejx]
   exact aV (by rw[FU,hax];rfl)
  clear h1
  have ask:∀H2,aq H1 H2->∀(u:V) (t':av) (Q:VK),aZ H2 t'.d u->Ce rs t'->(∀H',aq H2 H'->Q (.bl true) H')->kM R CG [.ref gr,u] H2 Q E0:=fun H2 s2 u t' Q hu hy hq=>⟨gr,gd,u,sg,st,ga,rs,t',rfl,hG.up s2,h24,hu,hy,hq⟩
  have hrt:Ce rs t:=⟨htw,by omega,by omega⟩
  walk_at "n"
  refine ask H1 (aq.refl _) vt t _ htx hrt fun H2 s2=>⟨true,rfl,?_⟩
  rw[if_neg (by decide)]
  refine h1 _ _ ?_
  clear h1
  have s02:=s1.trans s2
  walk_at "n"
  refine⟨a,ns,4,rfl,s02.seq ha,by omega,fun c=>h1 _ _ ?_⟩
  walk_at "nc"
  have hws:ts.map V.ref≠[]:=fun e=>by
   have:=hgx.gr.pos
   have h2:=hR.2.1
   rw[List.map_eq_nil_iff]at e
   rw[e]at h2
   simp at h2
   omega
  have htx2:=htx.up (bp.of s2) _
  refine⟨vt,_,lr,ls,t,ts.map V.ref,as,xs,trs,rfl,htx2,by omega,by omega,(hR.up s2).1,hws,by rw[FS,hR.2.1];omega,stk.up s2,fun t' u H3 hsp hu s3=>h1 _ _ ?_⟩
  clear h1
  have hq:(c/448*448+c%64+64*(4+c/64%2))/64%7=4\/(c/448*448+c%64+64*(4+c/64%2))/64%7=5:=by omega
  have hsz:=hsp.size (fun f hf=>(htrs2 f hf).1) htc htd
  have hrt':Ce rs t':=⟨hsp.wf hq (fun f hf=>(htrs2 f hf).2) htw,by omega,by omega⟩
  have s13:=s2.trans s3
  walk_at "wp"
  refine ask H3 s13 u t' _ hu hrt' fun H4 s4=>⟨true,rfl,?_⟩
  rw[if_pos rfl]
  exact ask H4 (s13.trans s4) vt t _ (htx.up (bp.of (s13.trans s4)) _) hrt fun H5 s5=>q H5
end
def FK(K:W.Frag)(x:Str)(st:Stmt)(f:Addr):Prop:=W.nsIn K mainGlobals x=some (some (.ref f))/\∃oc od osl kV doc pm an cdv ct,K.lookup f=some ⟨oc,od,.func (W.fnOf x x (bF st) (bv st) (ao st) .none kV doc pm an cdv ct),osl⟩/\W.codeIn K cdv x=true/\W.keepIn K (.ref f)=true
theorem fk_mk{K:W.Frag}{x:Str}{st:Stmt}{f:Addr}{oc:Value}{od an:Option Addr}{osl:Array (Option Value)}{kV doc pm cdv ct:Value}(a:W.nsIn K mainGlobals x=some (some (.ref f)))(l:K.lookup f=some ⟨oc,od,.func (W.fnOf x x (bF st) (bv st) (ao st) .none kV doc pm an cdv ct),osl⟩)(c:W.codeIn K cdv x=true)(k:W.keepIn K (.ref f)=true):FK K x st f:=⟨a,oc,od,osl,kV,doc,pm,an,cdv,ct,l,c,k⟩
theorem FK.cal{K:W.Frag}{x:Str}{st:Stmt}{f:Addr}{h base:Heap}{mg:Str->Option Value}{P:Program}{w:World}{CX:jH}{k:Nat}{ps:List Str}{sp:Sp}(q:FK K x st f)(X:K.In h)(G:h.Ns mainGlobals mg)
  (ok:∀fd,d9 K x x st f fd->mg x=some (.ref f)->W.keepIn K (.ref f)=true->dq K fd ps []->bb P w K mg base CX k f fd ps sp)
  (hb:∀(kV doc pm:Value) (an:Option Addr) (cdv ct:Value) (us:List Value),us.length=ps.length->bindArgs (W.fnOf x x (bF st) (bv st) (ao st) .none kV doc pm an cdv ct) ⟨us,[]⟩=pure (ps.zip us)):fP P w K mg base CX k x ps sp:=by
 obtain⟨a,oc,od,osl,kV,doc,pm,an,cdv,ct,l,c,kk⟩:=q
 have F:=dE l c kk
 have b:=F.binds hb
 exact⟨_,_,ok _ F (W.mg_of X G a) kk b,W.mg_of X G a,kk,b⟩
local macro_rules | `(tactic| walk_at "b1")=>`(tactic| exact fun _ _ _ _ _ _ us hl=>match us,hl with | [_],_=>rfl)
local macro_rules | `(tactic| walk_at "b2")=>`(tactic| exact fun _ _ _ _ _ _ us hl=>match us,hl with | [_,_],_=>rfl)
local macro_rules | `(tactic| walk_at "b3")=>`(tactic| exact fun _ _ _ _ _ _ us hl=>match us,hl with | [_,_,_],_=>rfl)
local macro_rules | `(tactic| walk_at "b4")=>`(tactic| exact fun _ _ _ _ _ _ us hl=>match us,hl with | [_,_,_,_],_=>rfl)
theorem all_mk{l:W.OpenLaw}{w:World}{K:W.Frag}{h:Heap}{mg:Str->Option Value}{fa f1 f2 f3 f4 f5 f6 f7 f8 f9 f10 f11 f12 f13 f14 f15 f16 f17 f18 f19 f20 f21 f22 f23 f24 f25 f26 f27 f28 f29 f30 f31:Addr}(X:K.In h)(G:h.Ns mainGlobals mg)(Ez:mg "law"=some (.ref fa))
  (a1:FK K "only_of" kI f1) (a2:FK K "is_name" lz f2) (a3:FK K "are_signs" ig f3) (a4:FK K "check_made_of" dR f4) (a5:FK K "numbers_by_name" dv f5) (a6:FK K "numbers_in" gC f6) (a7:FK K "grown" qP f7) (a8:FK K "read_tree" iH f8) (a9:FK K "shown_tree" gj f9) (ku:FK K "_law_cell" mG f10) (mB:FK K "_law_signs" lj f11) (qW:FK K "_law_names" kN f12) (v4:FK K "_law_quarter" iF f13) (An:FK K "_law_turned" jL f14) (CZ:FK K "_law_put" pM f15) (CV:FK K "_law_rule_made" nE f16) (CT:FK K "_law_drawn_rule" eU f17) (Ct:FK K "_law_next" nL f18) (Dx:FK K "_law_number" jy f19) (C6:FK K "_law_grown" le f20) (Dw:FK K "_law_grammar" il f21) (DF:FK K "_law_drawn" lu f22) (CI:FK K "_law_whole" kL f23) (Cu:FK K "_law_places" jv f24) (DA:FK K "_law_at" ud f25) (CU:FK K "_law_with" nB f26) (Dp:FK K "_law_spoilt" jj f27) (DL:FK K "_law_text" nN f28) (CQ:FK K "_law_is_tree" iD f29) (DK:FK K "_law_good" mE f30) (DD:FK K "law" pw f31)
  {zfa zaa zAa C_Rule zua zea zma zba zja zca zla zda zna zia zga zqa zwa zxa C_NoWord fINoWord:Addr} {tkCAPITALS tkSMALLS tkLONGEST_NAME tkMOST_SIGNS tkMOST_RULES tkMOST_NAMES tkMOST_NUMBERS tkMOST_WITHIN:Tok} {ddNoRule ddNoGrammar odINoGrammar anINoGrammar zQc zRc zNb zOb zeb zfb zCb zDb zPb zQb zHd zId znc zoc zld zmd znd zod ddNoWord odINoWord anINoWord:Option Addr} {zHe zsa cdNoWord:ClassData} {zIe zYd slINoGrammar zSc zRb zgb zEb zSb zJd zpc zpd zqd slNoWord slINoWord:Array (Option Value)} {ocINoGrammar kVINoGrammar dcINoGrammar pmINoGrammar cdINoGrammar ctINoGrammar zTc zUc zVc zWc zVa zXc zTb zUb zVb zWb zHa zXb zhb zib zjb zkb zBa zlb zFb zGb zHb zIb zDa zJb zYb zZb zac zbc zIa zcc zKd zLd zMd zNd zqc zOd zrc zsc ztc zuc zLa zvc zrd zsd ztd zud zmb zvd zwd zxd zyd zzd znb zAd ocINoWord kVINoWord dcINoWord pmINoWord cdINoWord ctINoWord:Value}  (pS:W.nsIn K mainGlobals "NoRule"=some (some (.ref zfa))) (nA:K.lookup zfa=some ⟨.type "type",ddNoRule,.cls zHe,zIe⟩) (jR:W.excIn K zfa [.type "ValueError",.type "Exception",.type "BaseException",.type "object"] "ValueError.__new__"=true) (lD:W.findIn K (.ref zfa) "__getattribute__"=some (some (.builtin "BaseException.__getattribute__"))) (kX:W.findIn K (.ref zfa) "__getattr__"=some none) (kC:W.mroIn K zfa (.type "BaseException")=some true) (kx:W.mroIn K zfa (.type "object")=some true) (kS:W.findIn K (.ref zfa) "__class__"=some (some (.builtin "object.__class__"))) (yM:W.specialIn K (.builtin "object.__class__") "__get__"=some (some (.builtin "getset_descriptor.__get__"))) (yN:W.takesIn K (.builtin "object.__class__")=some true) (jB:W.nsIn K mainGlobals "NoGrammar"=some (some (.ref zaa))) (dN:K.lookup zaa=some ⟨.type "type",ddNoGrammar,.cls zsa,zYd⟩) (gg:W.excOut K zaa [.type "ValueError",.type "Exception",.type "BaseException",.type "object"] "ValueError.__new__"=true) (gU:W.findIn K (.ref zaa) "__getattribute__"=some (some (.builtin "BaseException.__getattribute__"))) (gw:W.findIn K (.ref zaa) "__getattr__"=some none) (gP:W.mroIn K zaa (.type "BaseException")=some true) (gK:W.mroIn K zaa (.type "object")=some true) (gO:W.findIn K (.ref zaa) "__class__"=some (some (.builtin "object.__class__"))) (f_:W.findIn K (.ref zaa) "__init__"=some (some (.ref zAa))) (gS:W.typeIn K (.ref zAa)=some (.type "function")) (gq:K.lookup zAa=some ⟨ocINoGrammar,odINoGrammar,.func (W.fnOf "__init__" "NoGrammar.__init__" (bF iN) (bv iN) (ao iN) .none kVINoGrammar dcINoGrammar pmINoGrammar anINoGrammar cdINoGrammar ctINoGrammar),slINoGrammar⟩) (gu:W.codeIn K cdINoGrammar "NoGrammar.__init__"=true) (gH:W.keepIn K (.ref zAa)=true) (gQ:W.findIn K (.ref zaa) "__setattr__"=some (some (.builtin "object.__setattr__"))) (gc:W.strip zsa.mro=[.type "ValueError",.type "Exception",.type "BaseException",.type "object"]) (eJ:zsa.hasDict=true) (gL:zsa.mro.contains (.type "object")=true) (gx:zsa.mro.isEmpty=false) (gI:W.findIn K (.ref zaa) "why"=some none) (Fx:zsa.mro.contains (.ref zaa)=true) (kT:W.nsIn K mainGlobals "CAPITALS"=some (some (.str "ABCDEFGHIJKLMNOPQRSTUVWXYZ" tkCAPITALS))) (pI:W.nsIn K mainGlobals "SMALLS"=some (some (.str "abcdefghijklmnopqrstuvwxyz" tkSMALLS))) (fL:W.nsIn K mainGlobals "LONGEST_NAME"=some (some (.int 4 tkLONGEST_NAME))) (yu:W.nsIn K mainGlobals "Rule"=some (some (.ref C_Rule))) (sS:W.specialIn K (.ref C_Rule) "__getattribute__"=some (some (.builtin "type.__getattribute__"))) (ua:W.readsIn K C_Rule (.type "type")=true) (dS:W.findCls K (.ref C_Rule) (.type "type") "__init__"=some (.val (.ref zua))) (dZ:K.lookup zua=some ⟨zTc,zQc,.func (W.fnOf "__init__" "Rule.__init__" (bF dh) (bv dh) (ao dh) .none zUc zVc zWc zRc zVa zXc),zSc⟩) (dY:W.codeIn K zVa "Rule.__init__"=true) (DS:W.keepIn K (.ref zua)=true) (g7:W.isFn K (.ref zua)=true) (k7:W.nsIn K mainGlobals "CellRule"=some (some (.ref zea))) (Fb:W.plainGet K zea Str.empty=true) (EB:W.hasDictIn K zea=true) (FH:W.plainOver K zea=true) (ER:W.findIn K (.ref zea) "__setattr__"=some (some (.builtin "object.__setattr__"))) (EM:W.findIn K (.ref zea) "__class__"=some (some (.builtin "object.__class__"))) (EA:W.mroIn K zea (.type "object")=some true) (Ef:W.findIn K (.ref zea) "name"=some none) (FF:W.findIn K (.ref zea) "cost"=some none) (FG:W.findIn K (.ref zea) "part_names"=some none) (Fl:W.findIn K (.ref zea) "sign"=some none) (jo:W.makesIn K zea=true) (jK:W.findIn K (.ref zea) "__init__"=some (some (.ref zma))) (cP:K.lookup zma=some ⟨zTb,zNb,.func (W.fnOf "__init__" "CellRule.__init__" (bF c_) (bv c_) (ao c_) .none zUb zVb zWb zOb zHa zXb),zRb⟩) (cN:W.codeIn K zHa "CellRule.__init__"=true) (Ft:W.keepIn K (.ref zma)=true) (cQ:W.isFn K (.ref zma)=true) (ji:W.keepIn K (.ref zea)=true) (Ey:W.kitOne K (.ref zea) (.ref C_Rule)=some true) (D6:W.kitOne K (.ref zea) (.ref zea)=some true) (ie:W.nsIn K mainGlobals "BesideRule"=some (some (.ref zba))) (E3:W.plainGet K zba Str.empty=true) (En:W.hasDictIn K zba=true) (Ed:W.plainOver K zba=true) (E5:W.findIn K (.ref zba) "__setattr__"=some (some (.builtin "object.__setattr__"))) (EV:W.findIn K (.ref zba) "__class__"=some (some (.builtin "object.__class__"))) (E2:W.mroIn K zba (.type "object")=some true) (Fi:W.findIn K (.ref zba) "name"=some none) (Fp:W.findIn K (.ref zba) "cost"=some none) (ED:W.findIn K (.ref zba) "part_names"=some none) (FC:W.findIn K (.ref zba) "one"=some none) (FE:W.findIn K (.ref zba) "other"=some none) (gF:W.makesIn K zba=true) (gt:W.findIn K (.ref zba) "__init__"=some (some (.ref zja))) (ci:K.lookup zja=some ⟨zhb,zeb,.func (W.fnOf "__init__" "BesideRule.__init__" (bF b8) (bv b8) (ao b8) .none zib zjb zkb zfb zBa zlb),zgb⟩) (b_:W.codeIn K zBa "BesideRule.__init__"=true) (EW:W.keepIn K (.ref zja)=true) (ce:W.isFn K (.ref zja)=true) (gW:W.keepIn K (.ref zba)=true) (El:W.kitOne K (.ref zba) (.ref C_Rule)=some true) (DV:W.kitOne K (.ref zba) (.ref zba)=some true) (jE:W.nsIn K mainGlobals "AboveRule"=some (some (.ref zca))) (ES:W.plainGet K zca Str.empty=true) (Fh:W.hasDictIn K zca=true) (Ei:W.plainOver K zca=true) (EO:W.findIn K (.ref zca) "__setattr__"=some (some (.builtin "object.__setattr__"))) (ET:W.findIn K (.ref zca) "__class__"=some (some (.builtin "object.__class__"))) (Fg:W.mroIn K zca (.type "object")=some true) (Fs:W.findIn K (.ref zca) "name"=some none) (Eh:W.findIn K (.ref zca) "cost"=some none) (Ee:W.findIn K (.ref zca) "part_names"=some none) (Fr:W.findIn K (.ref zca) "one"=some none) (EK:W.findIn K (.ref zca) "other"=some none) (iK:W.makesIn K zca=true) (iJ:W.findIn K (.ref zca) "__init__"=some (some (.ref zla))) (cq:K.lookup zla=some ⟨zFb,zCb,.func (W.fnOf "__init__" "AboveRule.__init__" (bF cE) (bv cE) (ao cE) .none zGb zHb zIb zDb zDa zJb),zEb⟩) (cA:W.codeIn K zDa "AboveRule.__init__"=true) (Em:W.keepIn K (.ref zla)=true) (cu:W.isFn K (.ref zla)=true) (io:W.keepIn K (.ref zca)=true) (EX:W.kitOne K (.ref zca) (.ref C_Rule)=some true) (D4:W.kitOne K (.ref zca) (.ref zca)=some true) (lG:W.nsIn K mainGlobals "TurnRule"=some (some (.ref zda))) (EC:W.plainGet K zda Str.empty=true) (EI:W.hasDictIn K zda=true) (Fz:W.plainOver K zda=true) (Ff:W.findIn K (.ref zda) "__setattr__"=some (some (.builtin "object.__setattr__"))) (E9:W.findIn K (.ref zda) "__class__"=some (some (.builtin "object.__class__"))) (Fe:W.mroIn K zda (.type "object")=some true) (EH:W.findIn K (.ref zda) "name"=some none) (Fk:W.findIn K (.ref zda) "cost"=some none) (EZ:W.findIn K (.ref zda) "part_names"=some none) (Fo:W.findIn K (.ref zda) "part"=some none) (D_:W.findIn K (.ref zda) "turning"=some none) (jk:W.makesIn K zda=true) (jr:W.findIn K (.ref zda) "__init__"=some (some (.ref zna))) (cM:K.lookup zna=some ⟨zYb,zPb,.func (W.fnOf "__init__" "TurnRule.__init__" (bF dk) (bv dk) (ao dk) .none zZb zac zbc zQb zIa zcc),zSb⟩) (cR:W.codeIn K zIa "TurnRule.__init__"=true) (Eu:W.keepIn K (.ref zna)=true) (cO:W.isFn K (.ref zna)=true) (jF:W.keepIn K (.ref zda)=true) (Ex:W.kitOne K (.ref zda) (.ref C_Rule)=some true) (D1:W.kitOne K (.ref zda) (.ref zda)=some true) (iC:W.nsIn K mainGlobals "MOST_SIGNS"=some (some (.int 4 tkMOST_SIGNS))) (ia:W.nsIn K mainGlobals "MOST_RULES"=some (some (.int 24 tkMOST_RULES))) (ij:W.nsIn K mainGlobals "MOST_NAMES"=some (some (.int 8 tkMOST_NAMES))) (DC:W.kitOne K (.ref zea) (.ref zba)=some false) (CM:W.kitOne K (.ref zea) (.ref zca)=some false) (Dj:W.kitOne K (.ref zea) (.ref zda)=some false) (Cn:W.kitOne K (.ref zba) (.ref zea)=some false) (De:W.kitOne K (.ref zba) (.ref zca)=some false) (CN:W.kitOne K (.ref zba) (.ref zda)=some false) (Cq:W.kitOne K (.ref zca) (.ref zea)=some false) (Dm:W.kitOne K (.ref zca) (.ref zba)=some false) (CS:W.kitOne K (.ref zca) (.ref zda)=some false) (Cs:W.kitOne K (.ref zda) (.ref zea)=some false) (C7:W.kitOne K (.ref zda) (.ref zba)=some false) (CL:W.kitOne K (.ref zda) (.ref zca)=some false) (dH:W.findIn K (.ref zea) "parts"=some (some (.ref zia))) (gb:K.lookup zia=some ⟨zKd,zHd,.func (W.fnOf "parts" "Rule.parts" (bF cG) (bv cG) (ao cG) .none zLd zMd zNd zId zqc zOd),zJd⟩) (gM:W.codeIn K zqc "Rule.parts"=true) (BA:W.keepIn K (.ref zia)=true) (cK:W.isFn K (.ref zia)=true) (cY:W.findIn K (.ref zba) "parts"=some (some (.ref zia))) (dw:W.findIn K (.ref zca) "parts"=some (some (.ref zia))) (dF:W.findIn K (.ref zda) "parts"=some (some (.ref zia))) (mR:W.nsIn K mainGlobals "Grammar"=some (some (.ref zga))) (Fw:W.plainGet K zga Str.empty=true) (E4:W.hasDictIn K zga=true) (Fd:W.plainOver K zga=true) (FD:W.findIn K (.ref zga) "__setattr__"=some (some (.builtin "object.__setattr__"))) (Er:W.findIn K (.ref zga) "__class__"=some (some (.builtin "object.__class__"))) (Fj:W.mroIn K zga (.type "object")=some true) (EU:W.findIn K (.ref zga) "signs"=some none) (Fq:W.findIn K (.ref zga) "start"=some none) (Fv:W.findIn K (.ref zga) "kept"=some none) (Ep:W.findIn K (.ref zga) "numbers"=some none) (lN:W.makesIn K zga=true) (kJ:W.findIn K (.ref zga) "__init__"=some (some (.ref zqa))) (cZ:K.lookup zqa=some ⟨zrc,znc,.func (W.fnOf "__init__" "Grammar.__init__" (bF di) (bv di) (ao di) .none zsc ztc zuc zoc zLa zvc),zpc⟩) (c5:W.codeIn K zLa "Grammar.__init__"=true) (Fu:W.keepIn K (.ref zqa)=true) (cX:W.isFn K (.ref zqa)=true) (lE:W.keepIn K (.ref zga)=true) (fk:W.findIn K (.ref zga) "rule"=some (some (.ref zwa))) (fg:K.lookup zwa=some ⟨zrd,zld,.func (W.fnOf "rule" "Grammar.rule" (bF dj) (bv dj) (ao dj) .none zsd ztd zud zmd zmb zvd),zpd⟩) (eR:W.codeIn K zmb "Grammar.rule"=true) (D2:W.keepIn K (.ref zwa)=true) (fo:W.isFn K (.ref zwa)=true) (eV:W.findIn K (.ref zga) "many"=some (some (.ref zxa))) (fm:K.lookup zxa=some ⟨zwd,znd,.func (W.fnOf "many" "Grammar.many" (bF c8) (bv c8) (ao c8) .none zxd zyd zzd zod znb zAd),zqd⟩) (e_:W.codeIn K znb "Grammar.many"=true) (D5:W.keepIn K (.ref zxa)=true) (eX:W.isFn K (.ref zxa)=true) (pZ:W.nsIn K mainGlobals "NoWord"=some (some (.ref C_NoWord))) (j5:K.lookup C_NoWord=some ⟨.type "type",ddNoWord,.cls cdNoWord,slNoWord⟩) (lM:W.excOut K C_NoWord [.type "ValueError",.type "Exception",.type "BaseException",.type "object"] "ValueError.__new__"=true) (ly:W.findIn K (.ref C_NoWord) "__getattribute__"=some (some (.builtin "BaseException.__getattribute__"))) (kK:W.findIn K (.ref C_NoWord) "__getattr__"=some none) (lL:W.mroIn K C_NoWord (.type "BaseException")=some true) (lK:W.mroIn K C_NoWord (.type "object")=some true) (kD:W.findIn K (.ref C_NoWord) "__class__"=some (some (.builtin "object.__class__"))) (lI:W.findIn K (.ref C_NoWord) "__init__"=some (some (.ref fINoWord))) (kZ:W.typeIn K (.ref fINoWord)=some (.type "function")) (kQ:K.lookup fINoWord=some ⟨ocINoWord,odINoWord,.func (W.fnOf "__init__" "NoWord.__init__" (bF iV) (bv iV) (ao iV) .none kVINoWord dcINoWord pmINoWord anINoWord cdINoWord ctINoWord),slINoWord⟩) (lh:W.codeIn K cdINoWord "NoWord.__init__"=true) (lO:W.keepIn K (.ref fINoWord)=true) (kz:W.findIn K (.ref C_NoWord) "__setattr__"=some (some (.builtin "object.__setattr__"))) (kY:W.strip cdNoWord.mro=[.type "ValueError",.type "Exception",.type "BaseException",.type "object"]) (iW:cdNoWord.hasDict=true) (lJ:cdNoWord.mro.contains (.type "object")=true) (kF:cdNoWord.mro.isEmpty=false) (kW:W.findIn K (.ref C_NoWord) "at"=some none) (fJ:W.nsIn K mainGlobals "MOST_NUMBERS"=some (some (.int 200 tkMOST_NUMBERS))) (gl:W.nsIn K mainGlobals "MOST_WITHIN"=some (some (.int 60 tkMOST_WITHIN)))
  (z0:W.nsIn K mainGlobals "len"=some none) (z1:W.nsIn K mainGlobals "range"=some none) (z2:W.nsIn K mainGlobals "list"=some none) (z3:W.nsIn K mainGlobals "tuple"=some none) (z4:W.nsIn K mainGlobals "isinstance"=some none) (z5:W.nsIn K mainGlobals "int"=some none) (z6:W.nsIn K mainGlobals "bool"=some none) (z7:W.nsIn K mainGlobals "str"=some none) (z8:W.nsIn K mainGlobals "reversed"=some none) (z9:W.nsIn K mainGlobals "all"=some none) (CW:W.nsIn K mainGlobals "enumerate"=some none) (CO:W.nsIn K mainGlobals "zip"=some none) (Dd:W.nsIn K mainGlobals "sorted"=some none) (Dq:W.nsIn K mainGlobals "set"=some none) (DH:W.nsIn K mainGlobals "dict"=some none) (DI:W.nsIn K mainGlobals "min"=some none) (Dz:W.nsIn K mainGlobals "max"=some none) (DN:W.nsIn K mainGlobals "sum"=some none) (Dl:W.nsIn K mainGlobals "ValueError"=some none) :
  ∃fd:FuncData,(∀(s:Shared) (v:Value),BindsTo s fd ⟨[v],[]⟩ [("_law_script",v)])/\∀base:Heap,K.In base->base.Ns mainGlobals mg->bb l.prog w K mg base bL 64 fa fd ["_law_script"] (qD K):=by
 obtain⟨an,oc,od,osl,kV,doc,pm,ann,cdv,ct,hl,hc,hk⟩:=DD
 have e:=Ez.symm.trans (W.mg_of X G an)
 cases e
 have FL:=dE hl hc hk
 have nb:NB mg:=⟨W.mg_none_of X G z0,W.mg_none_of X G z1,W.mg_none_of X G z2,W.mg_none_of X G z3,W.mg_none_of X G z4,W.mg_none_of X G z5,W.mg_none_of X G z6,W.mg_none_of X G z7,W.mg_none_of X G z8,W.mg_none_of X G z9,W.mg_none_of X G CW,W.mg_none_of X G CO,W.mg_none_of X G Dd,W.mg_none_of X G Dq,W.mg_none_of X G DH,W.mg_none_of X G DI,W.mg_none_of X G Dz,W.mg_none_of X G DN,W.mg_none_of X G Dl⟩
 refine⟨W.fnOf "law" "law" (bF pw) (bv pw) (ao pw) .none kV doc pm ann cdv ct,fun s v=>.of_eq rfl,fun base _ _=>?_⟩
 have zva:=W.mg_of X G pS
 have xc_NoRule:yl K zfa [.type "ValueError",.type "Exception",.type "BaseException",.type "object"] "ValueError.__new__":=⟨jR⟩
 have zra:XR K zfa:=⟨_,_,_,_,_,_,_,_,⟨jR⟩,PySem.F.excBase_ValueError,rfl,PySem.F.excBase_ValueError⟩
 have xt_NoRule:W.XTy K zfa:=⟨lD,kX,kC,kx,kS,yM,yN,_,_,_,nA⟩
 have zpa:=W.mg_of X G jB
 have zVd:vL K zaa [.type "ValueError",.type "Exception",.type "BaseException",.type "object"] "ValueError.__new__":=⟨gg⟩
 have xt_NoGrammar:W.XTy K zaa:=⟨gU,gw,gP,gK,gO,yM,yN,_,_,_,dN⟩
 have clNoGrammar:W.clsIn K zaa=some zsa:=by unfold W.clsIn;rw[dN]
 have xh_NoGrammar:W.hasDictIn K zaa=true:=by unfold W.hasDictIn;rw[clNoGrammar];exact eJ
 have FINoGrammar:=dE (st:=iN) gq gu gH
 have xsINoGrammar:W.XSt K zaa "why":=⟨gQ,⟨zsa,clNoGrammar,gc,eJ,gL,gx⟩,gI⟩
 have bINoGrammar:=FINoGrammar.binds (ps:=["self","why"]) fun _ _ _ _ _ _ us hl=>match us,hl with | [_,_],_=>rfl
 have zka:XI l.prog w K mg base 1 zaa "why":=⟨_,_,_,_,_,_,_,_,zAa,_,_,zVd,PySem.F.excBase_ValueError,rfl,PySem.F.excBase_ValueError,f_,gS,wR FINoGrammar xsINoGrammar,bINoGrammar⟩
 have und_NoGrammar_NoGrammar:B2 K zaa zaa:=⟨_,_,_,dN,Fx⟩
 have m_CAPITALS:=W.mg_of X G kT
 have m_SMALLS:=W.mg_of X G pI
 have m_LONGEST_NAME:=W.mg_of X G fL
 have m_Rule:=W.mg_of X G yu
 have zXa:=dE (st:=dh) dZ dY DS
 have zid:=zXa.binds (ps:=["self","name","cost","part_names"]) fun _ _ _ _ _ _ us hl=>match us,hl with | [_,_,_,_],_=>rfl
 have cf_Rule___init__:xf K C_Rule "__init__" zua:=⟨sS,ua,dS,DS⟩
 have zPa:=W.mg_of X G k7
 have zJc:kA K zea:=⟨⟨Fb,EB,FH,ER⟩,EM,yM,yN,EA⟩
 have zJa:=dE (st:=c_) cP cN Ft
 have zfc:=zJa.binds (ps:=["self","name","cost","sign"]) fun _ _ _ _ _ _ us hl=>match us,hl with | [_,_,_,_],_=>rfl
 have zge:Mk K zea zma:=⟨jo,jK,cQ,ji⟩
 have zWd:=W.mg_of X G ie
 have zMb:kA K zba:=⟨⟨E3,En,Ed,E5⟩,EV,yM,yN,E2⟩
 have zCa:=dE (st:=b8) ci b_ EW
 have zub:=zCa.binds (ps:=["self","name","cost","one","other"]) fun _ _ _ _ _ _ us hl=>match us,hl with | [_,_,_,_,_],_=>rfl
 have zGd:Mk K zba zja:=⟨gF,gt,ce,gW⟩
 have zhe:=W.mg_of X G jE
 have zzc:kA K zca:=⟨⟨ES,Fh,Ei,EO⟩,ET,yM,yN,Fg⟩
 have zEa:=dE (st:=cE) cq cA Em
 have zLb:=zEa.binds (ps:=["self","name","cost","one","other"]) fun _ _ _ _ _ _ us hl=>match us,hl with | [_,_,_,_,_],_=>rfl
 have zXd:Mk K zca zla:=⟨iK,iJ,cu,io⟩
 have zwe:=W.mg_of X G lG
 have zKc:kA K zda:=⟨⟨EC,EI,Fz,Ff⟩,E9,yM,yN,Fe⟩
 have zKa:=dE (st:=dk) cM cR Eu
 have zgc:=zKa.binds (ps:=["self","name","cost","part","turning"]) fun _ _ _ _ _ _ us hl=>match us,hl with | [_,_,_,_,_],_=>rfl
 have zie:Mk K zda zna:=⟨jk,jr,cO,jF⟩
 let R:RC:=⟨C_Rule,zea,zba,zca,zda⟩
 have rk:lZ K R:=⟨zJc,zMb,zzc,zKc,⟨Ef,FF,FG,Fl⟩,⟨Fi,Fp,ED,FC,FE⟩,⟨Fs,Eh,Ee,Fr,EK⟩,⟨EH,Fk,EZ,Fo,D_⟩,Ey,El,EX,Ex,D6,DV,D4,D1⟩
 have m_MOST_SIGNS:=W.mg_of X G iC
 have m_MOST_RULES:=W.mg_of X G ia
 have m_MOST_NAMES:=W.mg_of X G ij
 have rk4:Ah K R:=⟨fun i j hi hj=>by rcases mm hi with rfl | rfl | rfl | rfl<;>rcases mm hj with rfl | rfl | rfl | rfl;exact D6;exact DC;exact CM;exact Dj;exact Cn;exact DV;exact De;exact CN;exact Cq;exact Dm;exact D4;exact CS;exact Cs;exact C7;exact CL;exact D1⟩
 have zza:=dE (st:=cG) gb gM BA
 have zFa:=zza.binds (ps:=["self"]) fun _ _ _ _ _ _ us hl=>match us,hl with | [_],_=>rfl
 have zGc:nC K zea "parts" zia:=⟨dH,cK,BA⟩
 have zhc:nC K zba "parts" zia:=⟨cY,cK,BA⟩
 have zAc:nC K zca "parts" zia:=⟨dw,cK,BA⟩
 have zHc:nC K zda "parts" zia:=⟨dF,cK,BA⟩
 have zGe:=W.mg_of X G mR
 have zGa:kA K zga:=⟨⟨Fw,E4,Fd,FD⟩,Er,yM,yN,Fj⟩
 have zMa:=dE (st:=di) cZ c5 Fu
 have zBc:=zMa.binds (ps:=["self","signs","start","rules"]) fun _ _ _ _ _ _ us hl=>match us,hl with | [_,_,_,_],_=>rfl
 have zxe:Mk K zga zqa:=⟨lN,kJ,cX,lE⟩
 have gk:DO K zga:=⟨zGa,EU,Fq,Fv,Ep⟩
 have zvb:=dE (st:=dj) fg eR D2
 have zCd:=zvb.binds (ps:=["self","k"]) fun _ _ _ _ _ _ us hl=>match us,hl with | [_,_],_=>rfl
 have zjd:nC K zga "rule" zwa:=⟨fk,fo,D2⟩
 have zwb:=dE (st:=c8) fm e_ D5
 have zDd:=zwb.binds (ps:=["self"]) fun _ _ _ _ _ _ us hl=>match us,hl with | [_],_=>rfl
 have zkd:nC K zga "many" zxa:=⟨eV,eX,D5⟩
 have m_NoWord:=W.mg_of X G pZ
 have xo_NoWord:vL K C_NoWord [.type "ValueError",.type "Exception",.type "BaseException",.type "object"] "ValueError.__new__":=⟨lM⟩
 have xt_NoWord:W.XTy K C_NoWord:=⟨ly,kK,lL,lK,kD,yM,yN,_,_,_,j5⟩
 have clNoWord:W.clsIn K C_NoWord=some cdNoWord:=by unfold W.clsIn;rw[j5]
 have xh_NoWord:W.hasDictIn K C_NoWord=true:=by unfold W.hasDictIn;rw[clNoWord];exact iW
 have FINoWord:=dE (st:=iV) kQ lh lO
 have xsINoWord:W.XSt K C_NoWord "at":=⟨kz,⟨cdNoWord,clNoWord,kY,iW,lJ,kF⟩,kW⟩
 have bINoWord:=FINoWord.binds (ps:=["self","at"]) fun _ _ _ _ _ _ us hl=>match us,hl with | [_,_],_=>rfl
 have xi_NoWord:XI l.prog w K mg base 1 C_NoWord "at":=⟨_,_,_,_,_,_,_,_,fINoWord,_,_,xo_NoWord,PySem.F.excBase_ValueError,rfl,PySem.F.excBase_ValueError,lI,kZ,yh FINoWord xsINoWord,bINoWord⟩
 have m_MOST_NUMBERS:=W.mg_of X G fJ
 have m_MOST_WITHIN:=W.mg_of X G gl
 have c_only_of:=a1.cal (P:=l.prog) (w:=w) (base:=base) X G (fun _ F m k b=>sQ F nb) (by walk_at "b2")
 have c_is_name:=a2.cal (P:=l.prog) (w:=w) (base:=base) X G (fun _ F m k b=>uf F nb m_LONGEST_NAME m_CAPITALS c_only_of) (by walk_at "b1")
 have zha:v9 l.prog w K mg base (dP l.prog w) 3 "Rule" "__init__" ["self","name","cost","part_names"] (cH K zfa):=⟨_,_,_,qU zXa nb zva zra c_is_name,m_Rule,cf_Rule___init__,zid⟩
 have zYa:m5 l.prog w K mg base (dP l.prog w) 4 "CellRule" zea ["self","name","cost","sign"] (gR K zfa):=⟨_,_,qG zJa nb m_SMALLS zva zra c_only_of zha,zPa,zge,zfc⟩
 have zNa:m5 l.prog w K mg base (dP l.prog w) 4 "BesideRule" zba ["self","name","cost","one","other"] (cD K zfa):=⟨_,_,nI zCa nb zha,zWd,zGd,zub⟩
 have zRa:m5 l.prog w K mg base (dP l.prog w) 4 "AboveRule" zca ["self","name","cost","one","other"] (cD K zfa):=⟨_,_,n_ zEa nb zha,zhe,zXd,zLb⟩
 have zZa:m5 l.prog w K mg base (dP l.prog w) 4 "TurnRule" zda ["self","name","cost","part","turning"] (gY K zfa):=⟨_,_,pN zKa nb zva zra zha,zwe,zie,zgc⟩
 have cp_parts:tF l.prog w K mg base bL 1 "parts" (iG K R):=BC ⟨_,_,_,dM zza nb,zJc.cl,zGc,zFa⟩ ⟨_,_,_,dM zza nb,zMb.cl,zhc,zFa⟩ ⟨_,_,_,dM zza nb,zzc.cl,zAc,zFa⟩ ⟨_,_,_,dM zza nb,zKc.cl,zHc,zFa⟩
 have c_are_signs:=a3.cal (P:=l.prog) (w:=w) (base:=base) X G (fun _ F m k b=>pY F nb m_MOST_SIGNS m_SMALLS c_only_of) (by walk_at "b1")
 have c_check_made_of:=a4.cal (P:=l.prog) (w:=w) (base:=base) X G (fun _ F m k b=>ky F nb rk rk4 m_MOST_RULES zPa zpa zka c_are_signs c_is_name) (by walk_at "b3")
 have c_numbers_by_name:=a5.cal (P:=l.prog) (w:=w) (base:=base) X G (fun _ F m k b=>ju F nb rk cp_parts) (by walk_at "b2")
 have zzb:m5 l.prog w K mg base (dP l.prog w) 4 "Grammar" zga ["self","signs","start","rules"] (gm K R zaa):=⟨_,_,qx zMa nb m_MOST_NAMES zpa zka c_check_made_of c_numbers_by_name,zGe,zxe,zBc⟩
 have cm_rule:l6 l.prog w K mg base bL 1 zga "rule" ["self","k"] (eD R zga):=⟨_,_,qc zvb nb zGa.cl gk.na,zGa.cl,zjd,zCd⟩
 have cm_many:l6 l.prog w K mg base bL 1 zga "many" ["self"] (gn R zga):=⟨_,_,qk zwb nb zGa.cl gk.na,zGa.cl,zkd,zDd⟩
 have c_numbers_in:=a6.cal (P:=l.prog) (w:=w) (base:=base) X G (fun _ F m k b=>jf F nb m k b 60 (by decide)) (by walk_at "b1")
 have c_grown:=a7.cal (P:=l.prog) (w:=w) (base:=base) X G (fun _ F m k b=>xt F nb rk cp_parts cm_rule) (by walk_at "b2")
 have c_read_tree:=a8.cal (P:=l.prog) (w:=w) (base:=base) X G (fun _ F m k b=>qg F nb rk m_MOST_NUMBERS m_MOST_WITHIN m_NoWord xi_NoWord cp_parts cm_rule cm_many c_grown) (by walk_at "b2")
 have c_shown_tree:=a9.cal (P:=l.prog) (w:=w) (base:=base) X G (fun _ F m k b=>om F nb c_numbers_in) (by walk_at "b1")
 have zoa:=ku.cal (P:=l.prog) (w:=w) (base:=base) X G (fun _ F m k b=>wA F nb) (by walk_at "b2")
 have zjc:=mB.cal (P:=l.prog) (w:=w) (base:=base) X G (fun _ F m k b=>ue F nb) (by walk_at "b2")
 have zic:=qW.cal (P:=l.prog) (w:=w) (base:=base) X G (fun _ F m k b=>tT F nb) (by walk_at "b1")
 have zab:=v4.cal (P:=l.prog) (w:=w) (base:=base) X G (fun _ F m k b=>pX F nb) (by walk_at "b1")
 have zxb:=An.cal (P:=l.prog) (w:=w) (base:=base) X G (fun _ F m k b=>rP F nb zab) (by walk_at "b2")
 have zQa:=CZ.cal (P:=l.prog) (w:=w) (base:=base) X G (fun _ F m k b=>yn F nb zxb) (by walk_at "b2")
 have zOa:=CV.cal (P:=l.prog) (w:=w) (base:=base) X G (fun _ F m k b=>wn F nb rk zYa zNa zRa zZa) (by walk_at "b1")
 have zta:=CT.cal (P:=l.prog) (w:=w) (base:=base) X G (fun _ F m k b=>l_ F nb) (by walk_at "b3")
 have zLc:=Ct.cal (P:=l.prog) (w:=w) (base:=base) X G (fun _ F m k b=>vD F nb zta zQa) (by walk_at "b4")
 have zyb:=Dx.cal (P:=l.prog) (w:=w) (base:=base) X G (fun _ F m k b=>rY F nb) (by walk_at "b3")
 have zkc:=C6.cal (P:=l.prog) (w:=w) (base:=base) X G (fun _ F m k b=>tf F nb nb.sum zLc zQa zyb) (by walk_at "b4")
 have zbb:=Dw.cal (P:=l.prog) (w:=w) (base:=base) X G (fun _ F m k b=>qv F nb gk zOa zzb) (by walk_at "b3")
 have zmc:=DF.cal (P:=l.prog) (w:=w) (base:=base) X G (fun _ F m k b=>uo F nb zoa zic zjc zta zkc zbb) (by walk_at "b3")
 have zlc:=CI.cal (P:=l.prog) (w:=w) (base:=base) X G (fun _ F m k b=>tR F nb) (by walk_at "b1")
 have zAb:=Cu.cal (P:=l.prog) (w:=w) (base:=base) X G (fun _ F m k b=>r_ F nb) (by walk_at "b1")
 have c_l_at:=DA.cal (P:=l.prog) (w:=w) (base:=base) X G (fun _ F m k b=>y3 F nb) (by walk_at "b2")
 have zSa:=CU.cal (P:=l.prog) (w:=w) (base:=base) X G (fun _ F m k b=>pk F nb m k b 61 (by decide)) (by walk_at "b3")
 have zBb:=Dp.cal (P:=l.prog) (w:=w) (base:=base) X G (fun _ F m k b=>rX F nb zAb c_l_at zSa) (by walk_at "b4")
 have zMc:=DL.cal (P:=l.prog) (w:=w) (base:=base) X G (fun _ F m k b=>wI F nb) (by walk_at "b1")
 have zcb:=CQ.cal (P:=l.prog) (w:=w) (base:=base) X G (fun _ F m k b=>qw F nb zlc) (by walk_at "b1")
 have zTa:=DK.cal (P:=l.prog) (w:=w) (base:=base) X G (fun _ F m k b=>vR F nb zMc c_shown_tree c_read_tree zcb) (by walk_at "b2")
 exact AY FL nb zoa zmc zBb zTa
theorem walk{l:W.OpenLaw}{q:Program}{loose:List Str}{XP:(Str->Option Value)->Heap->Prop}{YP:World->Heap->Prop}{d:DefRec}{K:Params->W.Frag}(hn:l.most=some 63)(hdf:d.params.defaults=[])
  (hY:∀(w:World) (h:Heap),YP w h->(K w.params).In h)
  (F:∀(w:World) (mg:Str->Option Value) (fa:Addr) (h:Heap),(K w.params).In h->h.Ns mainGlobals mg->mg d.name=some (.ref fa) ->
   ∃fd:FuncData,(∀(s:Shared) (u:Value),BindsTo s fd ⟨[u],[]⟩ [("_law_script",u)])/\∀base:Heap,(K w.params).In base->base.Ns mainGlobals mg->bb l.prog w (K w.params) mg base bL 64 fa fd ["_law_script"] (qD (K w.params))) :
  W.WalkO q loose XP YP l.row.toRowW d [] (fun f vs=>PySem.call f vs):=
 L2.walk_of (n:=63) (k:=64) (x:="_law_script") (CX:=fun _=>bL) (sp:=fun w=>qD (K w.params)) hn (by decide) hdf ⟨rfl,by decide,by decide⟩ hY F (fun _ _ a ns hl _ hS=>⟨a,ns,rfl,hS,fun _=>rfl⟩) fun _ _ _ _ _ z=>z
end Q17
open PySem PySem.W PyProof.Rows
local macro_rules | `(tactic| walk_at "kk")=>`(tactic| first | k_is | kernel_rfl | rfl | decide +kernel)
local macro_rules | `(tactic| walk_at "fk")=>`(tactic| (refine' Q17.fk_mk ?p ?q ?r ?s;(case p=>k_is);(case q=>k_is);(case r=>k_is);(case s=>k_is)))
set_option maxRecDepth 100000 in
set_option maxHeartbeats 0 in
theorem PySem.Challenge.cw_quiltlaw_k17_trees_written_and_read_holds : PySem.Challenge.rw_quiltlaw_k17_trees_written_and_read.Holds := by
 w_on;o_law;k_head;(case hw=>w_witness2)
 k_fill
 refine Q17.walk (l:=PySem.Challenge.rw_quiltlaw_k17_trees_written_and_read) rfl rfl (fun w h Y=>PySem.W.kIn_of Y) ?F
 case F=>
  intro w mg fa h KX G hmg
  refine' Q17.all_mk KX G hmg ?a1 ?a2 ?a3 ?a4 ?a5 ?a6 ?a7 ?a8 ?a9 ?ku ?mB ?qW ?v4 ?An ?CZ ?CV ?CT ?Ct ?Dx ?C6 ?Dw ?DF ?CI ?Cu ?DA ?CU ?Dp ?DL ?CQ ?DK ?DD ?pS ?nA ?jR ?lD ?kX ?kC ?kx ?kS ?yM ?yN ?jB ?dN ?gg ?gU ?gw ?gP ?gK ?gO ?f_ ?gS ?gq ?gu ?gH ?gQ ?gc ?eJ ?gL ?gx ?gI ?xmNoGrammar_NoGrammar ?kT ?pI ?fL ?yu ?sS ?ua ?dS ?dZ ?dY ?mkRule___init__ ?g7 ?k7 ?pgCellRule ?hdCellRule ?poCellRule ?saCellRule ?haCellRule ?moCellRule ?naCellRule_name ?naCellRule_cost ?naCellRule_part_names ?naCellRule_sign ?jo ?jK ?cP ?cN ?mkCellRule___init__ ?cQ ?ji ?rCellRule ?sCellRule ?ie ?pgBesideRule ?hdBesideRule ?poBesideRule ?saBesideRule ?haBesideRule ?moBesideRule ?naBesideRule_name ?naBesideRule_cost ?naBesideRule_part_names ?naBesideRule_one ?naBesideRule_other ?gF ?gt ?ci ?b_ ?mkBesideRule___init__ ?ce ?gW ?rBesideRule ?sBesideRule ?jE ?pgAboveRule ?hdAboveRule ?poAboveRule ?saAboveRule ?haAboveRule ?moAboveRule ?naAboveRule_name ?naAboveRule_cost ?naAboveRule_part_names ?naAboveRule_one ?naAboveRule_other ?iK ?iJ ?cq ?cA ?mkAboveRule___init__ ?cu ?io ?rAboveRule ?sAboveRule ?lG ?pgTurnRule ?hdTurnRule ?poTurnRule ?saTurnRule ?haTurnRule ?moTurnRule ?naTurnRule_name ?naTurnRule_cost ?naTurnRule_part_names ?naTurnRule_part ?naTurnRule_turning ?jk ?jr ?cM ?cR ?mkTurnRule___init__ ?cO ?jF ?rTurnRule ?sTurnRule ?iC ?ia ?ij ?DC ?CM ?Dj ?Cn ?De ?CN ?Cq ?Dm ?CS ?Cs ?C7 ?CL ?dH ?gb ?gM ?mkRule_parts ?cK ?cY ?dw ?dF ?mR ?pgGrammar ?hdGrammar ?poGrammar ?saGrammar ?haGrammar ?moGrammar ?naGrammar_signs ?naGrammar_start ?naGrammar_kept ?naGrammar_numbers ?lN ?kJ ?cZ ?c5 ?mkGrammar___init__ ?cX ?lE ?fk ?fg ?eR ?mkGrammar_rule ?fo ?eV ?fm ?e_ ?mkGrammar_many ?eX ?pZ ?j5 ?lM ?ly ?kK ?lL ?lK ?kD ?lI ?kZ ?kQ ?lh ?lO ?kz ?kY ?iW ?lJ ?kF ?kW ?fJ ?gl ?z0 ?z1 ?z2 ?z3 ?z4 ?z5 ?z6 ?z7 ?z8 ?z9 ?CW ?CO ?Dd ?Dq ?DH ?DI ?Dz ?DN ?Dl
  (case a1=>walk_at "fk");(case a2=>walk_at "fk");(case a3=>walk_at "fk");(case a4=>walk_at "fk");(case a5=>walk_at "fk");(case a6=>walk_at "fk");(case a7=>walk_at "fk");(case a8=>walk_at "fk")
  (case a9=>walk_at "fk");(case ku=>walk_at "fk");(case mB=>walk_at "fk");(case qW=>walk_at "fk");(case v4=>walk_at "fk");(case An=>walk_at "fk");(case CZ=>walk_at "fk");(case CV=>walk_at "fk")
  (case CT=>walk_at "fk");(case Ct=>walk_at "fk");(case Dx=>walk_at "fk");(case C6=>walk_at "fk");(case Dw=>walk_at "fk");(case DF=>walk_at "fk");(case CI=>walk_at "fk");(case Cu=>walk_at "fk")
  (case DA=>walk_at "fk");(case CU=>walk_at "fk");(case Dp=>walk_at "fk");(case DL=>walk_at "fk");(case CQ=>walk_at "fk");(case DK=>walk_at "fk");(case DD=>walk_at "fk");(case pS=>walk_at "kk")
  (case nA=>walk_at "kk");(case jR=>walk_at "kk");(case lD=>walk_at "kk");(case kX=>walk_at "kk");(case kC=>walk_at "kk");(case kx=>walk_at "kk");(case kS=>walk_at "kk");(case yM=>walk_at "kk")
  (case yN=>walk_at "kk");(case jB=>walk_at "kk");(case dN=>walk_at "kk");(case gg=>walk_at "kk");(case gU=>walk_at "kk");(case gw=>walk_at "kk");(case gP=>walk_at "kk");(case gK=>walk_at "kk")
  (case gO=>walk_at "kk");(case f_=>walk_at "kk");(case gS=>walk_at "kk");(case gq=>walk_at "kk");(case gu=>walk_at "kk");(case gH=>walk_at "kk");(case gQ=>walk_at "kk");(case gc=>walk_at "kk")
  (case eJ=>walk_at "kk");(case gL=>walk_at "kk");(case gx=>walk_at "kk");(case gI=>walk_at "kk");(case xmNoGrammar_NoGrammar=>walk_at "kk");(case kT=>walk_at "kk");(case pI=>walk_at "kk");(case fL=>walk_at "kk")
  (case yu=>walk_at "kk");(case sS=>walk_at "kk");(case ua=>walk_at "kk");(case dS=>walk_at "kk");(case dZ=>walk_at "kk");(case dY=>walk_at "kk");(case mkRule___init__=>walk_at "kk");(case g7=>walk_at "kk")
  (case k7=>walk_at "kk");(case pgCellRule=>walk_at "kk");(case hdCellRule=>walk_at "kk");(case poCellRule=>walk_at "kk");(case saCellRule=>walk_at "kk");(case haCellRule=>walk_at "kk");(case moCellRule=>walk_at "kk");(case naCellRule_name=>walk_at "kk")
  (case naCellRule_cost=>walk_at "kk");(case naCellRule_part_names=>walk_at "kk");(case naCellRule_sign=>walk_at "kk");(case jo=>walk_at "kk");(case jK=>walk_at "kk");(case cP=>walk_at "kk");(case cN=>walk_at "kk");(case mkCellRule___init__=>walk_at "kk")
  (case cQ=>walk_at "kk");(case ji=>walk_at "kk");(case rCellRule=>walk_at "kk");(case sCellRule=>walk_at "kk");(case ie=>walk_at "kk");(case pgBesideRule=>walk_at "kk");(case hdBesideRule=>walk_at "kk");(case poBesideRule=>walk_at "kk")
  (case saBesideRule=>walk_at "kk");(case haBesideRule=>walk_at "kk");(case moBesideRule=>walk_at "kk");(case naBesideRule_name=>walk_at "kk");(case naBesideRule_cost=>walk_at "kk");(case naBesideRule_part_names=>walk_at "kk");(case naBesideRule_one=>walk_at "kk");(case naBesideRule_other=>walk_at "kk")
  (case gF=>walk_at "kk");(case gt=>walk_at "kk");(case ci=>walk_at "kk");(case b_=>walk_at "kk");(case mkBesideRule___init__=>walk_at "kk");(case ce=>walk_at "kk");(case gW=>walk_at "kk");(case rBesideRule=>walk_at "kk")
  (case sBesideRule=>walk_at "kk");(case jE=>walk_at "kk");(case pgAboveRule=>walk_at "kk");(case hdAboveRule=>walk_at "kk");(case poAboveRule=>walk_at "kk");(case saAboveRule=>walk_at "kk");(case haAboveRule=>walk_at "kk");(case moAboveRule=>walk_at "kk")
  (case naAboveRule_name=>walk_at "kk");(case naAboveRule_cost=>walk_at "kk");(case naAboveRule_part_names=>walk_at "kk");(case naAboveRule_one=>walk_at "kk");(case naAboveRule_other=>walk_at "kk");(case iK=>walk_at "kk");(case iJ=>walk_at "kk");(case cq=>walk_at "kk")
  (case cA=>walk_at "kk");(case mkAboveRule___init__=>walk_at "kk");(case cu=>walk_at "kk");(case io=>walk_at "kk");(case rAboveRule=>walk_at "kk");(case sAboveRule=>walk_at "kk");(case lG=>walk_at "kk");(case pgTurnRule=>walk_at "kk")
  (case hdTurnRule=>walk_at "kk");(case poTurnRule=>walk_at "kk");(case saTurnRule=>walk_at "kk");(case haTurnRule=>walk_at "kk");(case moTurnRule=>walk_at "kk");(case naTurnRule_name=>walk_at "kk");(case naTurnRule_cost=>walk_at "kk");(case naTurnRule_part_names=>walk_at "kk")
  (case naTurnRule_part=>walk_at "kk");(case naTurnRule_turning=>walk_at "kk");(case jk=>walk_at "kk");(case jr=>walk_at "kk");(case cM=>walk_at "kk");(case cR=>walk_at "kk");(case mkTurnRule___init__=>walk_at "kk");(case cO=>walk_at "kk")
  (case jF=>walk_at "kk");(case rTurnRule=>walk_at "kk");(case sTurnRule=>walk_at "kk");(case iC=>walk_at "kk");(case ia=>walk_at "kk");(case ij=>walk_at "kk");(case DC=>walk_at "kk");(case CM=>walk_at "kk")
  (case Dj=>walk_at "kk");(case Cn=>walk_at "kk");(case De=>walk_at "kk");(case CN=>walk_at "kk");(case Cq=>walk_at "kk");(case Dm=>walk_at "kk");(case CS=>walk_at "kk");(case Cs=>walk_at "kk")
  (case C7=>walk_at "kk");(case CL=>walk_at "kk");(case dH=>walk_at "kk");(case gb=>walk_at "kk");(case gM=>walk_at "kk");(case mkRule_parts=>walk_at "kk");(case cK=>walk_at "kk");(case cY=>walk_at "kk")
  (case dw=>walk_at "kk");(case dF=>walk_at "kk");(case mR=>walk_at "kk");(case pgGrammar=>walk_at "kk");(case hdGrammar=>walk_at "kk");(case poGrammar=>walk_at "kk");(case saGrammar=>walk_at "kk");(case haGrammar=>walk_at "kk")
  (case moGrammar=>walk_at "kk");(case naGrammar_signs=>walk_at "kk");(case naGrammar_start=>walk_at "kk");(case naGrammar_kept=>walk_at "kk");(case naGrammar_numbers=>walk_at "kk");(case lN=>walk_at "kk");(case kJ=>walk_at "kk");(case cZ=>walk_at "kk")
  (case c5=>walk_at "kk");(case mkGrammar___init__=>walk_at "kk");(case cX=>walk_at "kk");(case lE=>walk_at "kk");(case fk=>walk_at "kk");(case fg=>walk_at "kk");(case eR=>walk_at "kk");(case mkGrammar_rule=>walk_at "kk")
  (case fo=>walk_at "kk");(case eV=>walk_at "kk");(case fm=>walk_at "kk");(case e_=>walk_at "kk");(case mkGrammar_many=>walk_at "kk");(case eX=>walk_at "kk");(case pZ=>walk_at "kk");(case j5=>walk_at "kk")
  (case lM=>walk_at "kk");(case ly=>walk_at "kk");(case kK=>walk_at "kk");(case lL=>walk_at "kk");(case lK=>walk_at "kk");(case kD=>walk_at "kk");(case lI=>walk_at "kk");(case kZ=>walk_at "kk")
  (case kQ=>walk_at "kk");(case lh=>walk_at "kk");(case lO=>walk_at "kk");(case kz=>walk_at "kk");(case kY=>walk_at "kk");(case iW=>walk_at "kk");(case lJ=>walk_at "kk");(case kF=>walk_at "kk")
  (case kW=>walk_at "kk");(case fJ=>walk_at "kk");(case gl=>walk_at "kk");(case z0=>k_is);(case z1=>k_is);(case z2=>k_is);(case z3=>k_is);(case z4=>k_is)
  (case z5=>k_is);(case z6=>k_is);(case z7=>k_is);(case z8=>k_is);(case z9=>k_is);(case CW=>k_is);(case CO=>k_is);(case Dd=>k_is)
  (case Dq=>k_is);(case DH=>k_is);(case DI=>k_is);(case Dz=>k_is);(case DN=>k_is);(case Dl=>k_is)
