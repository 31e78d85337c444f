import PyProof.Rows.All
import Wide.All
import OpenK.AllK
import Wide.FinOn
import Lean
import PyProof.EqAt
import PyProof.EqKinds
import PyProof.TupleCall
import PyProof.CollectIter
import PyProof.JoinWalk
import PyProof.StrOps
import PyProof.ListOps
import PyProof.StrLawsJoin
import KE.KRevIter
import PyProof.StrLawsFirst
import PyProof.Rows.StrNews2
import PyProof.StrLawsTight
import PyProof.StrLawsChain
import KE.KIntText
import KE.IntTextLaws
import PyProof.ListStr
import KE.KDictLaws
import KE.KDictList
import PyProof.Rows.SetFrom
import PyProof.FitsReplace
import KE.KEqDict
import PyProof.Rows.SumAny
import PyProof.Rows.CallKwBuiltin
import PyProof.EnumMake
import PyProof.TupleIter
import PyProof.Rows.TupIter
import PyProof.FactsAll.range_2
import PyProof.AutoSeq1
import PyProof.Rows.Range3
import PyProof.ZipIter
import PySem.Challenge.RW_quiltlaw_k36_rows_one_by_one
namespace PySem.W.Fast
def tw948657160266890272:=Nat
def tw12769973464881915936:=Nat
def tw12617890296466020416:=Nat
def tw9841390400323789888:=Nat
def tw7738014214380233792:=Nat
def tw9743221215739230272:=Nat
def tw5121858482433140928:=Nat
def tw2450258939513483456:=Nat
def tw6299380828431336640:=Nat
def tw1878402505873907936:=Nat
def tw7756865631754116384:=Nat
def tw8344477594634548544:=Nat
def tw12169812306823884192:=Nat
def tw3032091550493700512:=Nat
def tw16624446761532428736:=Nat
def tw4947261774951564736:=Nat
def tw16827293284985662912:=Nat
def tw15916864944380776960:=Nat
def tw577327351816594944:=Nat
def tw16174650220162559488:=Nat
def tw342895822469018112:=Nat
def tw13609347280071085600:=Nat
def tw2766450411977756192:=Nat
def tw1424877275923994144:=Nat
def tw9644019586739853888:=Nat
def tw9395014732063248992:=Nat
def tw15117144117608352352:=Nat
def tw17510844833691734656:=Nat
def tw15941050249495783136:=Nat
def tw458011689454276384:=Nat
def tw3789359266602630976:=Nat
def tw13278233541783440192:=Nat
def tw10232986850795458400:=Nat
def tw12755168218973024096:=Nat
def tw9640114784026572672:=Nat
def tw13573486034514320320:=Nat
def tw5620845771437027264:=Nat
def tw8085669582069141505:=Nat
def tw10393466926646254625:=Nat
def tw11053834492146894881:=Nat
def tw5421377483312901185:=Nat
def tw8284836581623413825:=Nat
def tw8190383965986669633:=Nat
def tw358629498034994273:=Nat
def tw14393345856965369953:=Nat
def tw5754187162646511809:=Nat
def tw3266286503575803073:=Nat
def tw10997908422318161185:=Nat
def tw9788999329157811489:=Nat
def tw6395905642367565121:=Nat
def tw14019061256787034561:=Nat
def tw17229418260416788033:=Nat
def tw11256974321168986785:=Nat
def tw6425959513955265217:=Nat
def tw10555587024099620577:=Nat
def tw5177776863895808769:=Nat
def tw6240074587115176737:=Nat
def tw5717109979587192834:=Nat
def tw17582547040163386370:=Nat
def tw6226043778297354242:=Nat
def tw13839935286580073506:=Nat
def tw17287820055372255298:=Nat
def tw2047824818566539362:=Nat
def tw130058636964227234:=Nat
def tw9723852682212862114:=Nat
def tw14266033336202343650:=Nat
def tw15077166985076324610:=Nat
def tw17289621292263410978:=Nat
def tw7094310013489737026:=Nat
def tw6498131152919157154:=Nat
def tw3134799681720150434:=Nat
def tw11924746067782694338:=Nat
def tw7009460221638930978:=Nat
def tw13988272835976658498:=Nat
def tw17260007609876213378:=Nat
def tw10924994008820626114:=Nat
def tw3966447527448352482:=Nat
def tw17283153902864247618:=Nat
def tw1392588817905385314:=Nat
def tw13234432690424473474:=Nat
def tw12152737365384449986:=Nat
def tw14440016621559617474:=Nat
def tw9705731115332317154:=Nat
def tw14675008126285990915:=Nat
def tw13267140806562265155:=Nat
def tw7936654291846016099:=Nat
def tw16232427278434103427:=Nat
def tw433781751403651235:=Nat
def tw8046549698174787811:=Nat
def tw925856403024127235:=Nat
def tw5282682932234994947:=Nat
def tw6769799052596770115:=Nat
def tw8694859350803259747:=Nat
def tw6301256625254824355:=Nat
def tw6501277123507353059:=Nat
def tw3237265308329847267:=Nat
def tw9489243432533104131:=Nat
def tw11181164773410419203:=Nat
def tw16773760730189574691:=Nat
def tw17703205404735191619:=Nat
def tw11376363111269963363:=Nat
def tw9381739043754616483:=Nat
def tw11127415520642585283:=Nat
def tw14464103378613270243:=Nat
def tw16478480549285914339:=Nat
def tw2733934027121501955:=Nat
def tw9434895171910629123:=Nat
def tw6738907405333079971:=Nat
def tw14667158426178361283:=Nat
def tw13737877413281894371:=Nat
def tw1309166117636356100:=Nat
def tw11909114493969139812:=Nat
def tw4952285264928620644:=Nat
def tw9173375386031443268:=Nat
def tw3271289769518809508:=Nat
def tw6820833407946110564:=Nat
def tw5229155887288381092:=Nat
def tw8306464800733846276:=Nat
def tw946672964131892068:=Nat
def tw17997149487708269444:=Nat
def tw160886307685005188:=Nat
def tw7163071999135496164:=Nat
def tw13176365969567118308:=Nat
def tw8849468680240267333:=Nat
def tw2368803465637013669:=Nat
def tw3574179561160496325:=Nat
def tw10879207222068670693:=Nat
def tw13133182828654863813:=Nat
def tw1290824967318885829:=Nat
def tw17871590744381053381:=Nat
def tw6539402128291918277:=Nat
def tw9672120447151798757:=Nat
def tw15058177340312287749:=Nat
def tw663095858485428773:=Nat
def tw16849535790289099301:=Nat
def tw2516116774434119205:=Nat
def tw3726909359833828901:=Nat
def tw11466442984110412357:=Nat
def tw2390159957405751877:=Nat
def tw517824363180065381:=Nat
def tw18221294632926825093:=Nat
def tw6181372432128709285:=Nat
def tw6513186629282751205:=Nat
def tw17856597084642063141:=Nat
def tw5084835227814459205:=Nat
def tw16109742315318247237:=Nat
def tw6152445628454596453:=Nat
def tw2217546148792728453:=Nat
def tw18378786312367975333:=Nat
def tw7659649103828246469:=Nat
def tw17535365607412002822:=Nat
def tw4848334812571784198:=Nat
def tw9138194991906246758:=Nat
def tw5688972575748100294:=Nat
def tw4496667261648940262:=Nat
def tw11763664004245892326:=Nat
def tw987572097575486694:=Nat
def tw5756126033627500870:=Nat
def tw15703916608953949606:=Nat
def tw3077282448309825958:=Nat
def tw15324869800404286886:=Nat
def tw13534235345803536838:=Nat
def tw15351269053341550086:=Nat
def tw13916086184175669798:=Nat
def tw14695742297320682086:=Nat
def tw10695593072996096742:=Nat
def tw13350860159267357446:=Nat
def tw10579351146015503110:=Nat
def tw1233935081804314566:=Nat
def tw18335493336241595399:=Nat
def tw7529302445748557863:=Nat
def tw3584677149970210855:=Nat
def tw3956582857772101671:=Nat
def tw2166622038210171975:=Nat
def tw13091939299874933895:=Nat
def tw14545290985547061383:=Nat
def tw10801880981069823111:=Nat
def tw6742979598478057703:=Nat
def tw16765482151156948359:=Nat
def tw6207775853494237575:=Nat
def tw15662415080075693543:=Nat
def tw2280298274291030503:=Nat
def tw646851103621926375:=Nat
def tw13217209103353815559:=Nat
def tw17477912166597570055:=Nat
def tw2683320528705582599:=Nat
def tw6148312901273626151:=Nat
def tw2410699560919563015:=Nat
def tw15013302818925916007:=Nat
def tw18263866805721208711:=Nat
def tw11031718220702961639:=Nat
def tw16869440025214151655:=Nat
def tw8878189365564621896:=Nat
def tw7108468753823445128:=Nat
def tw9782510944824602792:=Nat
def tw16392826603423154344:=Nat
def tw4555460085236986088:=Nat
def tw4749200588374523144:=Nat
def tw9734818913988662568:=Nat
def tw13951536708148730184:=Nat
def tw8773590077486957992:=Nat
def tw3619162798728820168:=Nat
def tw5203667050472514056:=Nat
def tw14711157821828558344:=Nat
def tw1500302891549919816:=Nat
def tw404632626091980392:=Nat
def tw12620894024341693064:=Nat
def tw13017854740910836392:=Nat
def tw10576454867071353544:=Nat
def tw15738173231402476264:=Nat
def tw6617238366184612648:=Nat
def tw8524959587050002216:=Nat
def tw8014729289083809608:=Nat
def tw7412594772115746728:=Nat
def tw14505173700916869064:=Nat
def tw3592481131387345864:=Nat
def tw13843255803354636264:=Nat
def tw13055971767892226089:=Nat
def tw15201844062102933577:=Nat
def tw6186255734254441609:=Nat
def tw16174157218407957641:=Nat
def tw4436920718032057513:=Nat
def tw1242784487699634345:=Nat
def tw12087884685948636361:=Nat
def tw6872029639916710121:=Nat
def tw13824747957607835913:=Nat
def tw13450185525082376489:=Nat
def tw13019676470397573513:=Nat
def tw8402921033502366089:=Nat
def tw15309054454399114633:=Nat
def tw5828092086583245193:=Nat
def tw9245978586284617353:=Nat
def tw10817711679660038825:=Nat
def tw6295424754824293065:=Nat
def tw7060155568690656969:=Nat
def tw5669500389252200169:=Nat
def tw14235440799916250857:=Nat
def tw15300330255503925033:=Nat
def tw10465377735024915273:=Nat
def tw10096065724862197641:=Nat
def tw15618409962236687305:=Nat
def tw3243235575202339850:=Nat
def tw17892338134753536010:=Nat
def tw1850610903725697066:=Nat
def tw8252595127036661898:=Nat
def tw4222320427376469130:=Nat
def tw1676041604090339498:=Nat
def tw1173156864428036266:=Nat
def tw11565352133018112202:=Nat
def tw302498265672724714:=Nat
def tw17258554449930430698:=Nat
def tw8710158221932988810:=Nat
def tw1414190744939965866:=Nat
def tw3521664922864718282:=Nat
def tw10568768258216526314:=Nat
def tw17898352804769377866:=Nat
def tw2493893593791672906:=Nat
def tw15717714990858232426:=Nat
def tw16363999247816244874:=Nat
def tw14297716642022345386:=Nat
def tw748128573777074922:=Nat
def tw1442637648502837002:=Nat
def tw13880424481017882410:=Nat
def tw12777708481702147914:=Nat
def tw3574303100215453771:=Nat
def tw16174787766399542379:=Nat
def tw10735606001702066283:=Nat
def tw8453584475258116235:=Nat
def tw10950760674184724651:=Nat
def tw3304918499470936235:=Nat
def tw14759507133299518635:=Nat
def tw11089662252490945803:=Nat
def tw14637218921485737259:=Nat
def tw17782774857832555883:=Nat
def tw15771930395394900363:=Nat
def tw4398514108726348171:=Nat
def tw4654594674865109387:=Nat
def tw11945601453519309291:=Nat
def tw12702956100054665739:=Nat
def tw2939161360570767947:=Nat
def tw13808339541934983755:=Nat
def tw4317742291828244075:=Nat
def tw9095000527383992011:=Nat
def tw5369087870992739019:=Nat
def tw8172892267952506603:=Nat
def tw5827372669969194827:=Nat
def tw14307639799944931179:=Nat
def tw9474473040399489931:=Nat
def tw1937945920284075947:=Nat
def tw14769730047597786027:=Nat
def tw14259126572902840267:=Nat
def tw920725366655247307:=Nat
def tw8283484892121545740:=Nat
def tw2715405222808030252:=Nat
def tw13704191649125961836:=Nat
def tw16901395600175707276:=Nat
def tw6730824258574445708:=Nat
def tw4477704615212163244:=Nat
def tw17538900797643188428:=Nat
def tw7864350771821378796:=Nat
def tw9236253327180889324:=Nat
def tw13701145005954270572:=Nat
def tw15091075051150754220:=Nat
def tw7234225712756388268:=Nat
def tw17762423521736910380:=Nat
def tw7939608407588761292:=Nat
def tw17644680902629692172:=Nat
def tw4806236646786375436:=Nat
def tw10563690627860680460:=Nat
def tw1530907298834491212:=Nat
def tw2311878758415544140:=Nat
def tw4077768395188862796:=Nat
def tw5058170210364171148:=Nat
def tw14969584246592143308:=Nat
def tw7914594386490034124:=Nat
def tw3779402916368848876:=Nat
def tw2045003256716829805:=Nat
def tw8140159738222548109:=Nat
def tw9138358374507468941:=Nat
def tw10751202246008725709:=Nat
def tw6205910906076064109:=Nat
def tw441199821935255917:=Nat
def tw17959965523368722829:=Nat
def tw2831065446372221357:=Nat
def tw15276271058882302413:=Nat
def tw18149840728561699501:=Nat
def tw4394811092591593165:=Nat
def tw5791422297004733197:=Nat
def tw10970891890660974509:=Nat
def tw3870763356312116173:=Nat
def tw18409280702145834989:=Nat
def tw16179703858451246094:=Nat
def tw8420488259409547342:=Nat
def tw16588064571265375374:=Nat
def tw17058510606206811310:=Nat
def tw1838205477411736750:=Nat
def tw1828235877476654286:=Nat
def tw3462833717090495726:=Nat
def tw2933380891014006030:=Nat
def tw10863586379529164142:=Nat
def tw7094588442381883758:=Nat
def tw3942463624331791758:=Nat
def tw6605573965644843406:=Nat
def tw14800788930038872494:=Nat
def tw16987553017268313550:=Nat
def tw16990054592824881742:=Nat
def tw4008279100322144846:=Nat
def tw2716587258222960238:=Nat
def tw4413425105212961390:=Nat
def tw13124717751851903630:=Nat
def tw16846560730170753742:=Nat
def tw4265494035590332110:=Nat
def tw8477228641614729998:=Nat
def tw12135952470189400910:=Nat
def tw8693619761560187854:=Nat
def tw12127359880302728174:=Nat
def tw1715766479661871119:=Nat
def tw4620954180139034703:=Nat
def tw2748402438297378959:=Nat
def tw15784740221953174671:=Nat
def tw6852608677578078415:=Nat
def tw11262079653664239823:=Nat
def tw7777727095239175439:=Nat
def tw18214612855013737807:=Nat
def tw13902502544809670991:=Nat
def tw8608244743111524719:=Nat
def tw10840956913157177743:=Nat
def tw16496545336601592207:=Nat
def tw16305010915708933551:=Nat
def tw744710309219859887:=Nat
def tw3423907597949576655:=Nat
def tw11462302737935702511:=Nat
def tw9374811336123797999:=Nat
def tw10506940162139717103:=Nat
def tw8749528972877338319:=Nat
def tw3999326305818059471:=Nat
def tw5528115632043729647:=Nat
def tw15297820683020928783:=Nat
def tw7532172885115750287:=Nat
def tw9890701448047660975:=Nat
def tw11093712028793563055:=Nat
def tw10109745188091251695:=Nat
def tw12286323595759161360:=Nat
def tw1129292393060451408:=Nat
def tw288235873576513744:=Nat
def tw4248790587302733072:=Nat
def tw4748348032747288880:=Nat
def tw14517121704416104784:=Nat
def tw1385581500059656528:=Nat
def tw4543154543262636464:=Nat
def tw12395205175929702896:=Nat
def tw17233480016460579312:=Nat
def tw13749900729571174928:=Nat
def tw14181766046774244944:=Nat
def tw14385091248034805456:=Nat
def tw2476498493573614320:=Nat
def tw2661532183065129808:=Nat
def tw16815950369557191568:=Nat
def tw14917894485962524592:=Nat
def tw9734344578545640368:=Nat
def tw13663880741717836881:=Nat
def tw14546156346208998513:=Nat
def tw13213217824618181777:=Nat
def tw2207131963166051537:=Nat
def tw12083304925670279409:=Nat
def tw5972357746240840977:=Nat
def tw7437037311632278865:=Nat
def tw15018581222000967025:=Nat
def tw12974362657541464465:=Nat
def tw15359955076139445713:=Nat
def tw15934665883451922929:=Nat
def tw1361269078454853105:=Nat
def tw1552861871998952977:=Nat
def tw953594784494044721:=Nat
def tw6214711180647404113:=Nat
def tw7290127123316763249:=Nat
def tw4912381024301171409:=Nat
def tw8620977427307586257:=Nat
def tw2109989882882843377:=Nat
def tw2235407977106483089:=Nat
def tw17861450863339288497:=Nat
def tw16055175123180713969:=Nat
def tw16522927259185918994:=Nat
def tw15421843421769367602:=Nat
def tw11773157130371961906:=Nat
def tw2476370907699605618:=Nat
def tw16155298481497658578:=Nat
def tw9386265036504456434:=Nat
def tw10308398168546610578:=Nat
def tw3151254282376964498:=Nat
def tw11474729294840362514:=Nat
def tw660265855395542578:=Nat
def tw6634901753204172370:=Nat
def tw16613053260965118578:=Nat
def tw1283672656145157778:=Nat
def tw2985559015910137586:=Nat
def tw5013682181324138258:=Nat
def tw5512030293740195666:=Nat
def tw3032642809073110898:=Nat
def tw17867176901402208114:=Nat
def tw4031045283478446002:=Nat
def tw13726713998186736659:=Nat
def tw3626464919317912627:=Nat
def tw11653157288835876979:=Nat
def tw9593992327674399891:=Nat
def tw12016135436202122387:=Nat
def tw8477357914274775187:=Nat
def tw2590633404242837683:=Nat
def tw6045943636592081075:=Nat
def tw7919553789380345075:=Nat
def tw18330261506017312051:=Nat
def tw15672979349504011635:=Nat
def tw15822846530234322355:=Nat
def tw3872470110887689683:=Nat
def tw14773046792143094291:=Nat
def tw15481359521675657779:=Nat
def tw17979533376138155603:=Nat
def tw8947508733888574035:=Nat
def tw15197227415585893011:=Nat
def tw5624775613544721235:=Nat
def tw15366670793171226547:=Nat
def tw8192816594793396179:=Nat
def tw1909836048633156563:=Nat
def tw9388240896908120051:=Nat
def tw15103203943082050580:=Nat
def tw14971673367649209364:=Nat
def tw12970783474794956852:=Nat
def tw7399288301841466484:=Nat
def tw12503592930643787924:=Nat
def tw17785713534946013364:=Nat
def tw10087408683597249716:=Nat
def tw15533819050749906132:=Nat
def tw6236502129062401236:=Nat
def tw11682579651793707220:=Nat
def tw7816722690172871892:=Nat
def tw18088258755168400628:=Nat
def tw16023532060885821876:=Nat
def tw11758170464365160948:=Nat
def tw10174383201484951028:=Nat
def tw4420100777157279316:=Nat
def tw14829967584123375188:=Nat
def tw17403544179660646996:=Nat
def tw2232719669851856500:=Nat
def tw7752960353267006100:=Nat
def tw17241903421003998868:=Nat
def tw15911445578866329268:=Nat
def tw14812867184867566292:=Nat
def tw9738137845750055668:=Nat
def tw514365193475231508:=Nat
def tw965901782151869268:=Nat
def tw12072656352902473684:=Nat
def tw14066520449468703765:=Nat
def tw17436748563178547253:=Nat
def tw11828181088962130005:=Nat
def tw16329478313093931125:=Nat
def tw15901117895842739317:=Nat
def tw840560789276053621:=Nat
def tw10675995513250771061:=Nat
def tw2547735512143888533:=Nat
def tw8557364932055725269:=Nat
def tw16948001175810371829:=Nat
def tw10479273197115458805:=Nat
def tw15228611528177701141:=Nat
def tw5100374813207970229:=Nat
def tw12076134405577659829:=Nat
def tw2074678978155384277:=Nat
def tw9057688581306346965:=Nat
def tw14300886929978980821:=Nat
def tw6603600473927450069:=Nat
def tw2676607958738145877:=Nat
def tw3449210665439428181:=Nat
def tw7191133698945880661:=Nat
def tw641194422013988469:=Nat
def tw3394851293633510005:=Nat
def tw7769976514371538581:=Nat
def tw14444865876302345941:=Nat
def tw17989661412709803765:=Nat
def tw2620337018639585077:=Nat
def tw3216643986520420245:=Nat
def tw18110743270918236085:=Nat
def tw12545146970022565813:=Nat
def tw1181879953766218741:=Nat
def tw18120873476883071030:=Nat
def tw17523628664824884278:=Nat
def tw10749385342667501654:=Nat
def tw4063245241236620406:=Nat
def tw18292752538606013558:=Nat
def tw4423210361551710454:=Nat
def tw17345456160502912246:=Nat
def tw8939830326293028150:=Nat
def tw18193431452902492534:=Nat
def tw16937144572756993430:=Nat
def tw9832521351987706262:=Nat
def tw6065083644080236982:=Nat
def tw15234282817124295094:=Nat
def tw11665401989342745142:=Nat
def tw14644606827020313174:=Nat
def tw10318340422129796854:=Nat
def tw14281885526068570902:=Nat
def tw213522052388929398:=Nat
def tw10597592995028169590:=Nat
def tw17886915615171317654:=Nat
def tw7999347831804769174:=Nat
def tw12891512493551348662:=Nat
def tw3926896997613507510:=Nat
def tw3585544140942195638:=Nat
def tw11055123762046602198:=Nat
def tw4735356826031473622:=Nat
def tw1808505755962012759:=Nat
def tw9936270257875789911:=Nat
def tw15663532191406386295:=Nat
def tw3737365959115122839:=Nat
def tw16530964788066993335:=Nat
def tw6343503764560820439:=Nat
def tw13335123405540251895:=Nat
def tw13318966217628165399:=Nat
def tw15762264342367236375:=Nat
def tw4165546740583347543:=Nat
def tw8686903505295364503:=Nat
def tw13514712843817730487:=Nat
def tw5181212949118582295:=Nat
def tw5259318422350248535:=Nat
def tw13451144571327831639:=Nat
def tw16411112634273495703:=Nat
def tw3631158255939847959:=Nat
def tw7285999498806562583:=Nat
def tw12248556183524877079:=Nat
def tw17973001168383140663:=Nat
def tw1275664665085309751:=Nat
def tw8762261331771531095:=Nat
def tw5012803949180757943:=Nat
def tw336708394524768247:=Nat
def tw12800696878197318647:=Nat
def tw13538833168279286840:=Nat
def tw7707644240853552280:=Nat
def tw7459275264940935352:=Nat
def tw8108027379396166904:=Nat
def tw319011409942748440:=Nat
def tw1765330292366560536:=Nat
def tw9503557661503047032:=Nat
def tw2907147999628422520:=Nat
def tw10394249727585481272:=Nat
def tw1504590652448551480:=Nat
def tw3969112132773385816:=Nat
def tw6633537693527277176:=Nat
def tw17777045539198959224:=Nat
def tw12135707465194231448:=Nat
def tw7440110583099692696:=Nat
def tw1933625480046378648:=Nat
def tw6149264373341629112:=Nat
def tw5998618807393745592:=Nat
def tw14133945126915848984:=Nat
def tw531965296239848248:=Nat
def tw5502064319405992760:=Nat
def tw11613051555613005656:=Nat
def tw8372703458974967833:=Nat
def tw15992792575769978937:=Nat
def tw624312553820414009:=Nat
def tw3337161266405102713:=Nat
def tw17728127486820553881:=Nat
def tw15574067606790906073:=Nat
def tw18216788014174611673:=Nat
def tw16917076195236383993:=Nat
def tw11996126658143869209:=Nat
def tw12635683381278549337:=Nat
def tw8297637564763345337:=Nat
def tw717420447200056793:=Nat
def tw14743651543291076089:=Nat
def tw18229108024355190265:=Nat
def tw10322377885910158873:=Nat
def tw11513711294193113689:=Nat
def tw11811141016757116537:=Nat
def tw2509282893671651001:=Nat
def tw14047649090724944601:=Nat
def tw9021015875164208857:=Nat
def tw2104306456703957817:=Nat
def tw5181568795994532729:=Nat
def tw14771950535028858745:=Nat
def tw13906636946288242617:=Nat
def tw15366935612223169497:=Nat
def tw16233803894005150746:=Nat
def tw17744318829434484794:=Nat
def tw7567176890944842874:=Nat
def tw2428337031676742810:=Nat
def tw4599365917928790330:=Nat
def tw15045040340316573114:=Nat
def tw8409801047129419290:=Nat
def tw7508275081762675258:=Nat
def tw3528439642338174522:=Nat
def tw6821106515128444506:=Nat
def tw15956172661123410522:=Nat
def tw2320987680756861562:=Nat
def tw4150964582268770938:=Nat
def tw1663525611674364666:=Nat
def tw466096190047426330:=Nat
def tw5630934161167183674:=Nat
def tw7532452597921059674:=Nat
def tw14220444700865094490:=Nat
def tw8485446354544580506:=Nat
def tw1494859518843986906:=Nat
def tw15940796643110588410:=Nat
def tw8967015951289091131:=Nat
def tw3379869838057034811:=Nat
def tw11892255775118589019:=Nat
def tw8008308210972852347:=Nat
def tw17380906911049461115:=Nat
def tw738081105416979995:=Nat
def tw3000224872569724507:=Nat
def tw12603191520329974395:=Nat
def tw1784765928732812923:=Nat
def tw10197167913523980955:=Nat
def tw639929031712411291:=Nat
def tw8970673417791461179:=Nat
def tw1434721025675547515:=Nat
def tw13960256239283485627:=Nat
def tw12069657354573266907:=Nat
def tw12035001013395589115:=Nat
def tw11949019269705957404:=Nat
def tw15978777342743227420:=Nat
def tw16443985537844915292:=Nat
def tw11907982536431922364:=Nat
def tw9321871792937069788:=Nat
def tw14153482987674227164:=Nat
def tw592098210569970172:=Nat
def tw16906369054951913020:=Nat
def tw1509367371299371580:=Nat
def tw15957328848297289308:=Nat
def tw17659214451303189116:=Nat
def tw16068449127560962748:=Nat
def tw16912786932670577468:=Nat
def tw9568289762305403708:=Nat
def tw5840136631980931004:=Nat
def tw5152243220516599740:=Nat
def tw10632388933593164796:=Nat
def tw15805330203924834333:=Nat
def tw6390088138205903901:=Nat
def tw7980920589912191037:=Nat
def tw15933517199936957501:=Nat
def tw357268284764293277:=Nat
def tw16375177806538781853:=Nat
def tw17661452695679854781:=Nat
def tw10823119664363680029:=Nat
def tw1173831962186959197:=Nat
def tw5583581794728588701:=Nat
def tw15214236941448304029:=Nat
def tw10042452416394640893:=Nat
def tw14331593933744566781:=Nat
def tw4563824809513972253:=Nat
def tw7122695933816415773:=Nat
def tw18003482516018346685:=Nat
def tw9985398219569659677:=Nat
def tw1462443174112155485:=Nat
def tw2952126849070416958:=Nat
def tw3007405486704927838:=Nat
def tw1963679309285859518:=Nat
def tw6153068328804690110:=Nat
def tw18210433869522041022:=Nat
def tw17377111328679820478:=Nat
def tw1965411799208150238:=Nat
def tw16637925706856585502:=Nat
def tw1279407389072159134:=Nat
def tw14598913225632113086:=Nat
def tw7949727091673817534:=Nat
def tw6788452280835062238:=Nat
def tw10446019931219374590:=Nat
def tw6426550007507436030:=Nat
def tw1477392965222457982:=Nat
def tw9026650751089435262:=Nat
def tw14305954672654854814:=Nat
def tw3682524586289095326:=Nat
def tw18052654100024733374:=Nat
def tw11054232948794864318:=Nat
def tw16904027388547672862:=Nat
def tw11756700712917087038:=Nat
def tw15726434706314969918:=Nat
def tw1762860221727794014:=Nat
def tw828501361898008446:=Nat
def tw3684653842537736094:=Nat
def tw11234754002189310942:=Nat
def tw2229170893763567582:=Nat
def tw16427507321065893886:=Nat
def tw10291261207008243775:=Nat
def tw4285517289176375359:=Nat
def tw6288853462433565887:=Nat
def tw18023787915605963071:=Nat
def tw5926753237973205407:=Nat
def tw1310718319801204127:=Nat
def tw11920127760993392063:=Nat
def tw589901918165290495:=Nat
def tw10535442674076199519:=Nat
def tw11474817853440137823:=Nat
def tw14692141904537693855:=Nat
def tw781525874060762815:=Nat
def tw16460235339626850175:=Nat
def tw16967836282788605823:=Nat
def tw7157918413179128735:=Nat
def tw14774539772675528607:=Nat
def tw13141522780347946644:=Nat
end PySem.W.Fast
theorem zz0(h:1=1:=by rfl):1=1:=h
theorem zz1(h:1=1:=by decide):1=1:=h
theorem zz2(h:1=1:=by decide +kernel):1=1:=h
theorem zz3(h:1=1:=by first | exact .inl rfl | exact .inr rfl | assumption):1=1:=h
theorem zz4(h:1=1:=by intro _;rfl):1=1:=h
theorem zz5(h:1=1:=by with_unfolding_all rfl):1=1:=h
theorem zz6(h:1=1:=by first | exact Or.inl rfl | exact Or.inr (Or.inl rfl) | exact Or.inr (Or.inr rfl)):1=1:=h
set_option linter.all false
set_option Elab.async false
set_option maxRecDepth 100000
noncomputable abbrev K4:=PySem.Value->PySem.Shared->Prop
noncomputable abbrev K5:=PySem.W.Frag
noncomputable abbrev K6:=List (PySem.Addr×PySem.Obj)
noncomputable abbrev K7:=List Nat
noncomputable abbrev K8:=PySem.Shared
noncomputable abbrev K9:=List PySem.Value
noncomputable abbrev La:=List PySem.Addr
noncomputable abbrev Lb:=PySem.Str->Option PySem.Value
noncomputable abbrev Lc:=PySem.FuncData
noncomputable abbrev Ld:=PySem.Program
noncomputable abbrev Le:=List PySem.Str
noncomputable abbrev Lf:=PySem.Around
noncomputable abbrev Lg:=PySem.World
noncomputable abbrev Lh:=Option PySem.Addr
noncomputable abbrev Li:=List PySem.Expr
local macro_rules|`(term|⋯)=>`(by omega)
local macro_rules|`(term|nofun)=>`(by decide)
abbrev J7:=@List.getElem?_eq_getElem
abbrev J8:=@List.getElem?_eq_some_iff
abbrev J9:=@PySem.Heap.get?_push_of_some
abbrev J_:=@List.length_map
abbrev J':=@List.mem_singleton
abbrev Ka:=@List.getElem?_map
abbrev Kb:=@List.mem_of_getElem?
abbrev Kc:=@PySem.Heap.get?_update_other
abbrev Kd:=@PySem.Heap.get?_push_size
abbrev Ke:=@List.size_toArray
abbrev Kf:=@List.getElem_mem
abbrev Kg:=@Int.toNat_natCast
abbrev Kh:=@PySem.Heap.get?_update_self
abbrev Ki:=@List.length_cons
abbrev Kj:=@List.map_append
abbrev Kk:=@List.mem_append
abbrev Kl:=@List.map_map
abbrev Km:=@List.mem_cons
abbrev Kn:=@List.mem_cons_of_mem
abbrev Ko:=@List.length_reverse
abbrev Kq:=@Nat.lt_of_lt_of_le
abbrev Kr:=@Nat.ne_of_lt
abbrev Ks:=@List.getElem?_append_right
abbrev Kt:=@List.getElem?_append_left
abbrev Ku:=@List.length_append
abbrev Kv:=@Nat.le_refl
abbrev Kw:=@Nat.zero_le
abbrev Kx:=@Bool.false_ne_true
abbrev Ky:=@PySem.Heap.lt_size
abbrev Kz:=@Option.map_eq_some_iff
abbrev KA:=@List.getElem_map
abbrev KB:=@List.getElem?_cons_succ
abbrev KC:=@List.map_cons
abbrev KD:=@Nat.le_trans
abbrev KF:=@Nat.lt_irrefl
abbrev KG:=@Nat.lt_succ_self
abbrev KH:=@List.append_nil
abbrev KI:=@List.append_assoc
abbrev KJ:=@List.getElem?_set_self
abbrev KL:=@List.take_length
abbrev KM:=@List.length_take
abbrev KN:=@List.length_drop
abbrev KO:=@Nat.lt_of_le_of_lt
abbrev KP:=@List.length_eq_zero_iff
abbrev KQ:=@List.mem_map
abbrev KR:=@List.all_eq_true
abbrev KS:=@Nat.add_le_add_left
abbrev KU:=@List.getElem_toArray
abbrev KW:=@List.nil_append
abbrev KY:=@Int.emod_nonneg
abbrev KZ:=@Int.emod_lt_of_pos
abbrev K0:=@Int.toNat_of_nonneg
abbrev K1:=@Nat.min_eq_left
abbrev K2:=@List.take_zero
abbrev K3:=@List.drop_zero
namespace L2
open PySem PySem.Spec PyProof.Rows
noncomputable abbrev cS:=Sum Int Str
noncomputable def rL:cS->Value->Bool
 | .inl k,v=>Value.isInt k v
 | .inr x,v=>Value.isStrOf x v
noncomputable def GV(w:Lg):cS->Int
 | .inl k=>hashInt k
 | .inr x=>hashStr w x
theorem cw:∀{k:cS} {v:Value},rL k v=true->(∃i t,k=Sum.inl i/\v=Value.int i t)\/(∃x t,k=Sum.inr x/\v=Value.str x t)
 | .inl i,v,h=>by
  obtain⟨t,e⟩:=Value.isInt_shape (k:=i) (v:=v) h;exact .inl ⟨i,t,rfl,e⟩
 | .inr x,v,h=>by
  obtain⟨t,e⟩:=Value.isStrOf_shape (x:=x) (v:=v) h;exact .inr ⟨x,t,rfl,e⟩
theorem zU(i:Int)(t:Tok):rL (.inl i) (.int i t)=true:=by simp[rL,Value.isInt]
theorem AO(x:Str)(t:Tok):rL (.inr x) (.str x t)=true:=by simp[rL,Value.isStrOf]
theorem FC(a b:Int):decide ((Sum.inl a:cS)=Sum.inl b)=(a==b):=by
 by_cases e:a=b
 ·subst e;simp
 ·have h:¬ (Sum.inl a:cS)=Sum.inl b:=λq=>e (Sum.inl.inj q)
  rw[decide_eq_false h];exact(beq_eq_false_iff_ne.mpr e).symm
theorem Fl(a b:Str):decide ((Sum.inr a:cS)=Sum.inr b)=decide (a=b):=by
 by_cases e:a=b
 ·subst e;simp
 ·have h:¬ (Sum.inr a:cS)=Sum.inr b:=λq=>e (Sum.inr.inj q)
  rw[decide_eq_false h,decide_eq_false e]
theorem Fm(a:Int)(b:Str):decide ((Sum.inl a:cS)=Sum.inr b)=false:=decide_eq_false (λq=>nomatch q)
theorem Fa(a:Str)(b:Int):decide ((Sum.inr a:cS)=Sum.inl b)=false:=decide_eq_false (λq=>nomatch q)
noncomputable def cG(prog:Ld)(w:Lg):PySem.KeyKind prog w cS where
 is:=rL
 hash:=GV w
 inj:=λv a b ha hb=>by
  rcases cw ha with⟨i,t,rfl,rfl⟩ | ⟨x,t,rfl,rfl⟩
  ·rcases cw hb with⟨j,u,rfl,e⟩ | ⟨y,u,rfl,e⟩
   ·injection e with e1 _;rw[e1]
   ·exact nomatch e
  ·rcases cw hb with⟨j,u,rfl,e⟩ | ⟨y,u,rfl,e⟩
   ·exact nomatch e
   ·injection e with e1 _;rw[e1]
 byValue:=λk v h=>by
  rcases cw h with⟨i,t,rfl,rfl⟩ | ⟨x,t,rfl,rfl⟩<;>rfl
 pyHash:=λhv h=>by
  rcases cw hv with⟨i,t,rfl,rfl⟩ | ⟨x,t,rfl,rfl⟩
  ·exact wpAny_pyHash_int h
  ·exact wpAny_pyHash_str h
 eqBool:=λhu hv h=>by
  rcases cw hu with⟨i,t,rfl,rfl⟩ | ⟨x,t,rfl,rfl⟩
  ·rcases cw hv with⟨j,u,rfl,rfl⟩ | ⟨y,u,rfl,rfl⟩
   ·rw[FC]at h;exact wpAny_eqBool_int h
   ·rw[Fm]at h;exact SeqAt.EqAt.int_str i t y u _ _ _ _ h
  ·rcases cw hv with⟨j,u,rfl,rfl⟩ | ⟨y,u,rfl,rfl⟩
   ·rw[Fa]at h;exact SeqAt.EqAt.str_int x t j u _ _ _ _ h
   ·rw[Fl]at h;exact wpAny_eqBool_str h
 «strs»:=λk x t v h=>by
  rcases cw h with⟨i,u,rfl,e⟩ | ⟨y,u,rfl,e⟩
  ·exact nomatch e
  ·injection e with e1 _
   subst e1;cases v<;>rfl
theorem u7(prog:Ld)(w:Lg)(i:Int)(t:Tok):(cG prog w).is (.inl i) (.int i t)=true:=zU i t
theorem vR(prog:Ld)(w:Lg)(x:Str)(t:Tok):(cG prog w).is (.inr x) (.str x t)=true:=AO x t
inductive V where
 |non | bl (b:Bool) | int (i:Int) | str (x:Str) | byt (b:Array UInt8) | flt (b:UInt64) | ref (a:Addr) | ty (n:String)
 deriving DecidableEq
noncomputable def bq:V->Value->Prop
 | .non,u=>u=Value.none
 | .bl b,u=>u=Value.bool b
 | .int i,u=>∃t,u=Value.int i t
 | .str x,u=>∃t,u=Value.str x t
 | .byt b,u=>∃t,u=Value.bytes b t
 | .flt b,u=>∃t,u=Value.float b t
 | .ref a,u=>u=Value.ref a
 | .ty n,u=>u=Value.type n
noncomputable abbrev bg:List V->List Value->Prop:=Paired bq
theorem bg.length{xs:List V}{us:K9}(r:bg xs us):xs.length=us.length:=Paired.length r
theorem bg.get:∀{xs:List V} {us:K9} {i:Nat} {x:V},bg xs us->xs[i]?=some x->∃u,us[i]?=some u/\bq x u
 |_,_,_,_,.nil,e=>by simp at e
 |_,_,0,_,.cons r _,e=>by simp at e;subst e;exact⟨_,rfl,r⟩
 |_,_,i+1,x,.cons _ t,e=>by
  obtain⟨u,h1,h2⟩:=bg.get (i:=i) (x:=x) t (by simpa using e);exact⟨u,by simpa using h1,h2⟩
theorem bg.append:∀{xs ys:List V} {us ws:K9},bg xs us->bg ys ws->bg (xs++ys) (us++ws)
 |_,_,_,_,.nil,s=>s
 |_,_,_,_,.cons r t,s=>.cons r (bg.append t s)
theorem bg.take:∀{xs:List V} {us:K9} (n:Nat),bg xs us->bg (xs.take n) (us.take n)
 |_,_,0,_=>.nil
 |_,_,_+1,.nil=>.nil
 |_,_,n+1,.cons r t=>.cons r (bg.take n t)
theorem bg.drop:∀{xs:List V} {us:K9} (n:Nat),bg xs us->bg (xs.drop n) (us.drop n)
 |_,_,0,r=>r
 |_,_,_+1,.nil=>.nil
 |_,_,n+1,.cons _ t=>bg.drop n t
noncomputable def jO:Option V->Option Value->Prop
 |some v,some u=>bq v u
 |none,none=>True
 |_,_=>False
noncomputable def KV{κ:Type}:List (κ×V)->List (κ×Value)->Prop:=Paired fun(p:κ×V) (q:κ×Value)=>p.1=q.1/\bq p.2 q.2
noncomputable def kV:cS->V
 | .inl i=>.int i
 | .inr x=>.str x
inductive HO where
  |lst (xs:List V)
  |tup (xs:List V)
  |dK (kvs:List (cS×V)) | dT (kvs:List (List cS×V))
  |set(S:Int->Bool) (n:Nat)
  |ins (C dx:Addr) (fs:List (Str×V))
  |own (x:Addr)
  |xd (fs:List (Str×V))
  |met (f x:Addr)
  |rng (lo hi:Int)
  |frz (o:Obj) (u:HO)
  |tbl (ps:Array Value)
  |ext (φ:Heap->Prop)
noncomputable abbrev Hp:=Addr->Option HO
noncomputable def ax(H:Hp)(a:Addr)(o:HO):Hp:=λb=>if b=a then some o else H b
theorem ac{H:Hp}{a:Addr}{o:HO}:ax H a o a=some o:=by unfold ax;rw[if_pos rfl]
theorem ao{H:Hp}{a b:Addr}{o:HO}(h:b≠a):ax H a o b=H b:=by unfold ax;rw[if_neg h]
theorem mL{H:Hp}{a:Addr}{o u:HO}:ax (ax H a o) a u=ax H a u:=by
 funext b;unfold ax;split<;>rfl
theorem Gh{H:Hp}{a b:Addr}{o u:HO}(h:H a=some o)(h':H b=some u)(d:o≠u):a≠b:=by
 intro e;subst e;rw[h]at h';exact d (Option.some.inj h')
theorem aC{H:Hp}{a b:Addr}{o:HO}(h:H a=some o)(h':H b=none):a≠b:=by
 intro e;subst e;rw[h]at h';cases h'
section
variable (P:Ld)(w:Lg)
noncomputable def bS(H:Hp)(h:Heap)(a:Addr):HO->Prop
 | .lst xs=>xs.length<=sizeLine/\∃(its:K9) (n:Nat),bg xs its/\h.get? a=some {cls:=.type "list",data:=.seq its.toArray n}
 | .tup xs=>xs.length<=sizeLine/\∃its:List Value,bg xs its/\IsTup h a its.toArray
 | .dK kvs=>kvs.length<=sizeLine/\(a==sysModules)=false/\∃vs,KV kvs vs/\h.DictOf (cG P w) a vs
 | .dT kvs=>kvs.length<=sizeLine/\(a==sysModules)=false/\∃xs:List (List cS×Addr×Value),
   Paired (fun(p:List cS×V) (q:List cS×Addr×Value)=>p.1=q.1/\H q.2.1=some (.tup (p.1.map kV))/\bq p.2 q.2.2) kvs xs /\
   ∃o es ep,h.get? a=some o/\o.ExactDict/\o.data=.dict es ep/\es.toList=xs.map (entryOfKey (tupleKind (cG P w)))/\(xs.map (·.1)).Nodup
 | .set S n=>h.SetOf (intKind P w) a S n
 | .ins C dx fs=>H dx=some (.own a)/\fs.length<=1000/\dx≠a/\h.get? a=some (PySem.W.instObj C dx) /\
   ∃mA,h.Ns1 dx mA/\(∀f,jO (fs.lookup f) (mA f))/\PySem.Within mA (fs.map (·.1))
 | .own _=>∃o,h.get? a=some o
 | .xd fs=>∃mA,h.Ns1 a mA/\∀f,jO (fs.lookup f) (mA f)
 | .rng lo hi=>∃t u v,h.get? a=some {cls:=.type "range",data:=.fields #[.int lo t,.int hi u,.int 1 v]}
 | .frz o u=>h.get? a=some o/\bS H h a u
 | .tbl ps=>h.get? a=some {cls:=.none,data:=.fields ps}
 | .met f x=>h.get? a=some (PySem.W.methodObj (.ref f) (.ref x))
 | .ext φ=>φ h/\(∃o,h.get? a=some o)/\∀h1 h2:Heap,φ h1->(∀o,h1.get? a=some o->h2.get? a=some o)->φ h2
noncomputable def km(H:Hp)(h:Heap):Prop:=∀a o,H a=some o->bS P w H h a o
end
section
variable {P:Ld}{w:Lg}{H H':Hp}{h h':Heap}{a:Addr}{o:HO}
theorem bS.lt(x:bS P w H h a o):a<h.objs.size:=by
 cases o with
 |lst xs=>obtain⟨_,_,_,_,e⟩:=x;exact Ky e
 |tup xs=>obtain⟨_,_,_,p⟩:=x;exact p.lt
 |dK kvs=>obtain⟨_,_,_,_,o,_,_,e,_⟩:=x;exact Ky e
 |dT kvs=>obtain⟨_,_,_,_,o,_,_,e,_⟩:=x;exact Ky e
 |set S n=>obtain⟨o,_,_,_,e,_⟩:=x;exact Ky e
 |ins C dx fs=>obtain⟨_,_,_,e,_⟩:=x;exact Ky e
 |own y=>obtain⟨_,e⟩:=x;exact Ky e
 |xd fs=>obtain⟨_,⟨_,_,_,e,_⟩,_⟩:=x;exact Ky e
 |rng lo hi=>obtain⟨_,_,_,e⟩:=x;exact Ky e
 |frz ob u=>obtain⟨e,_⟩:=x;exact Ky e
 |tbl ps=>exact Ky (show h.get? a=some _ from x)
 |met f y=>exact Ky (show h.get? a=some _ from x)
 |ext φ=>obtain⟨_,⟨_,e⟩,_⟩:=x;exact Ky e
theorem Paired.mapP{α β:Type}{F G:α->β->Prop}:∀{l₁:List α} {l₂:List β},Paired F l₁ l₂->(∀a b,F a b->G a b)->Paired G l₁ l₂
 |_,_,.nil,_=>.nil
 |_,_,.cons r t,f=>.cons (f _ _ r) (Paired.mapP t f)
theorem bS.stay(x:bS P w H h a o)(k:∀b u,(b=a\/H b=some (.own a))->h.get? b=some u->h'.get? b=some u)
  (ho:∀b,H b=some (.own a)->H' b=some (.own a)) (ht:∀b xs,H b=some (.tup xs)->H' b=some (.tup xs)):bS P w H' h' a o:=by
 induction o with
 |lst xs=>obtain⟨z,its,n,r,e⟩:=x;exact⟨z,its,n,r,k _ _ (.inl rfl) e⟩
 |tup xs=>obtain⟨z,its,r,ob,e,c⟩:=x;exact⟨z,its,r,ob,k _ _ (.inl rfl) e,c⟩
 |dK kvs=>obtain⟨z,y,vs,r,ob,es,ep,e,c⟩:=x;exact⟨z,y,vs,r,ob,es,ep,k _ _ (.inl rfl) e,c⟩
 |dT kvs=>
  obtain⟨z,y,xs,r,ob,es,ep,e,c⟩:=x;exact⟨z,y,xs,Paired.mapP r λp q z=>⟨z.1,ht _ _ z.2.1,z.2.2⟩,ob,es,ep,k _ _ (.inl rfl) e,c⟩
 |set S n=>obtain⟨ob,es,ep,t,e,c⟩:=x;exact⟨ob,es,ep,t,k _ _ (.inl rfl) e,c⟩
 |ins C dx fs=>
  obtain⟨d,z,ne,e,mA,⟨od,es,ep,e2,c⟩,r⟩:=x;exact⟨ho _ d,z,ne,k _ _ (.inl rfl) e,mA,⟨od,es,ep,k _ _ (.inr d) e2,c⟩,r⟩
 |own y=>obtain⟨ob,e⟩:=x;exact⟨ob,k _ _ (.inl rfl) e⟩
 |xd fs=>obtain⟨mA,⟨od,es,ep,e,c⟩,r⟩:=x;exact⟨mA,⟨od,es,ep,k _ _ (.inl rfl) e,c⟩,r⟩
 |rng lo hi=>obtain⟨t,u,v,e⟩:=x;exact⟨t,u,v,k _ _ (.inl rfl) e⟩
 |frz ob u ih=>obtain⟨e,q⟩:=x;exact⟨k _ _ (.inl rfl) e,ih q⟩
 |tbl ps=>
  have e:h.get? a=some {cls:=.none,data:=.fields ps}:=x;show h'.get? a=some {cls:=.none,data:=.fields ps};exact k a _ (.inl rfl) e
 |met f y=>
  have e:h.get? a=some (PySem.W.methodObj (.ref f) (.ref y)):=x;show h'.get? a=some (PySem.W.methodObj (.ref f) (.ref y));exact k a _ (.inl rfl) e
 |ext φ=>obtain⟨p,⟨o,e⟩,st⟩:=x;exact⟨st _ _ p λo q=>k _ _ (.inl rfl) q,⟨o,k _ _ (.inl rfl) e⟩,st⟩
theorem km.lt(x:km P w H h)(e:H a=some o):a<h.objs.size:=(x a o e).lt
theorem km.fresh(x:km P w H h)(e:h.objs.size<=a):H a=none:=by
 cases q:H a with
 |none=>rfl
 |some u=>exact absurd (Kq (x.lt q) e) (KF _)
theorem km.kept(x:km P w H h)(k:∀b u,h.get? b=some u->h'.get? b=some u):km P w H h':=λa o e=>
 (x a o e).stay (λb u _ q=>k b u q) (λ_ q=>q) λ_ _ q=>q
theorem km.laid(x:km P w H h)(k:∀b u,h.get? b=some u->h'.get? b=some u)(hp:h.objs.size<=a)(new:bS P w (ax H a o) h' a o):km P w (ax H a o) h':=λb u e=>by
 have hn:=x.fresh hp
 by_cases hb:b=a
 ·subst hb;rw[ac]at e;cases e;exact new
 ·rw[ao hb]at e
  exact(x b u e).stay (λc v _ q=>k c v q) (λc q=>by rw[ao (aC q hn)];exact q) λc xs q=>by rw[ao (aC q hn)];exact q
end
noncomputable def Rd(H:Hp)(a:Addr)(u:HO):Prop:=H a=some u\/∃o,H a=some (.frz o u)
theorem Rd.ok{P:Ld}{w:Lg}{H:Hp}{h:Heap}{a:Addr}{u:HO}(r:Rd H a u)(x:km P w H h):bS P w H h a u:=by
 rcases r with r | ⟨o,r⟩
 ·exact x a u r
 ·obtain⟨_,q⟩:=x a _ r
  exact q
noncomputable def GC:Option HO->Prop
 |some (.lst _)=>True
 |some (.dK _)=>True
 |some (.dT _)=>True
 |some (.set _ _)=>True
 |some (.ins _ _ _)=>True
 |some (.ext _)=>True
 |_=>False
section
variable {P:Ld}{w:Lg}{H:Hp}{h h':Heap}{x e:Addr}{o':HO}
theorem km.write(ok:km P w H h)(mu:GC (H x))(he:e=x\/H e=some (.own x))(k:∀b u,b≠e->h.get? b=some u->h'.get? b=some u)(heo:∃u,h'.get? e=some u)
  (new:bS P w (ax H x o') h' x o'):km P w (ax H x o') h':=λb u q=>by
 have nown:∀c y,H c=some (.own y)->c≠x:=λc y r z=>by subst z;rw[r]at mu;exact mu
 have ntup:∀c xs,H c=some (.tup xs)->c≠x:=λc xs r z=>by subst z;rw[r]at mu;exact mu
 by_cases hb:b=x
 ·subst hb;rw[ac]at q;cases q;exact new
 ·rw[ao hb]at q
  by_cases hbe:b=e
  ·have q':H b=some (.own x):=by
    rcases he with z | z
    ·exact absurd (hbe.trans z) hb
    ·rw[hbe];exact z
   rw[q]at q';cases q'
   obtain⟨v,hv⟩:=heo;exact⟨v,by rw[hbe];exact hv⟩
  ·refine(ok b u q).stay (λc v hc r=>k c v ?_ r) (λc r=>by rw[ao (nown c b r)];exact r) λc xs r=>by rw[ao (ntup c xs r)];exact r
   rcases hc with rfl | hc
   ·exact hbe
   ·rintro rfl
    rcases he with z | z
    ·exact nown c b hc z
    ·rw[hc]at z;cases z;exact hb rfl
end
structure Un(fs ex:La)(H H':Hp)(h h':Heap):Prop where
 keep:∀b o,h.get? b=some o->H b=none->b∉fs->b∉ex->h'.get? b=some o
 slot:∀b o,h.get? b=some o->H b=none->b∈fs->b∉ex->∃sl,h'.get? b=some {o with slots:=sl}
 free:∀b o,h.get? b=some o->H b=none->b∉ex->H' b=none
 there:∀b o,h.get? b=some o->b∉ex->∃o',h'.get? b=some o'
 tups:∀b xs,H b=some (.tup xs)->H' b=some (.tup xs)
 frzs:∀b o u,H b=some (.frz o u)->H' b=some (.frz o u)
 tbls:∀b ps,H b=some (.tbl ps)->∃more,H' b=some (.tbl (ps++more))
section
variable {fs fs' ex ex':La}{H H1 H2:Hp}{h h1 h2 h':Heap}{a x e:Addr}{o:HO}
theorem Un.any(u:Un fs ex H H1 h h1){b:Addr}{ob:Obj}(q:h.get? b=some ob)(n:H b=none)(hx:b∉ex):∃sl,h1.get? b=some {ob with slots:=sl}:=by
 by_cases hb:b∈fs
 ·exact u.slot b ob q n hb hx
 ·exact⟨ob.slots,u.keep b ob q n hb hx⟩
theorem Un.kept(k:∀b u,h.get? b=some u->h'.get? b=some u):Un fs ex H H h h':=
 ⟨λb ob q _ _ _=>k b ob q,λb ob q _ _ _=>⟨ob.slots,k b ob q⟩,λ_ _ _ n _=>n,λb ob q _=>⟨ob,k b ob q⟩,λ_ _ q=>q,λ_ _ _ q=>q,λ_ ps q=>⟨#[],by rw[q];simp⟩⟩
theorem Un.refl:Un fs ex H H h h:=Un.kept λ_ _ q=>q
theorem Un.laid(k:∀b u,h.get? b=some u->h'.get? b=some u)(hp:h.objs.size<=a)(hn:H a=none):Un fs ex H (ax H a o) h h' where
 keep:=λb u q _ _ _=>k b u q
 slot:=λb u q _ _ _=>⟨u.slots,k b u q⟩
 free:=λb u q n _=>by rw[ao (Kr (Kq (Ky q) hp))];exact n
 there:=λb u q _=>⟨u,k b u q⟩
 tups:=λb xs q=>by rw[ao (aC q hn)];exact q
 frzs:=λb u xs q=>by rw[ao (aC q hn)];exact q
 tbls:=λb ps q=>⟨#[],by rw[ao (aC q hn),q];simp⟩
theorem Un.write(mu:GC (H x))(he:e=x\/H e=some (.own x))(k:∀b u,b≠e->h.get? b=some u->h'.get? b=some u)(heo:∃u,h'.get? e=some u):Un fs ex H (ax H x o) h h':=by
 have hx:∀b,H b=none->b≠x:=λb n z=>by subst z;rw[n]at mu;exact mu
 have hb:∀b,H b=none->b≠e:=λb n z=>by
  subst z;rcases he with r | r
  ·exact hx b n r
  ·rw[n]at r;cases r
 have hm:∀b u,H b=some u->¬ GC (some u)->b≠x:=λb u q nm z=>by subst z;rw[q]at mu;exact nm mu
 refine⟨λb u q n _ _=>k b u (hb b n) q,λb u q n _ _=>⟨u.slots,k b u (hb b n) q⟩,λb u q n _=>by rw[ao (hx b n)];exact n,λb u q _=>?_,
  λb xs q=>by rw[ao (hm b _ q λz=>z)];exact q,λb u xs q=>by rw[ao (hm b _ q λz=>z)];exact q,λb ps q=>⟨#[],by rw[ao (hm b _ q λz=>z),q];simp⟩⟩
 by_cases hbe:b=e
 ·subst hbe;exact heo
 ·exact⟨u,k b u hbe q⟩
end
noncomputable def GJ(h:Heap)(H:Hp):List Addr:=(List.range h.objs.size).filter λa=>(H a).isSome
noncomputable def uF(h:Heap)(H:Hp):Heap:=PySem.W.hideAll h (GJ h H)
theorem AY(h:Heap)(H:Hp):(uF h H).objs.size=h.objs.size:=PySem.W.hideAll_size _ _
theorem BF{h:Heap}{H:Hp}{b:Addr}{o:Obj}(e:h.get? b=some o)(n:H b=none):(uF h H).get? b=some o:=
 PySem.W.hideAll_get _ e λhm=>by
  have q:(H b).isSome=true:=(List.mem_filter.mp hm).2;rw[n]at q;simp at q
theorem DL{h:Heap}{H:Hp}{b:Addr}{o:Obj}(e:(uF h H).get? b=some o):h.get? b=some o/\H b=none:=by
 have e':h.get? b=some o:=PySem.W.of_hideAll (GJ h H) e;refine⟨e',?_⟩;cases q:H b with
 |none=>rfl
 |some x=>
  have hm:b∈GJ h H:=List.mem_filter.mpr ⟨List.mem_range.mpr (Ky e'),by simp[q]⟩;have z:(uF h H).get? b=none:=PySem.W.hideAll_none (GJ h H) hm;rw[z]at e;cases e
noncomputable def Eb(g h:Heap)(L:Addr):List (Addr×Obj):=(List.range h.objs.size).filterMap λa=>if a=L\/(g.get? a).isSome=true then none else(h.get? a).map λo=>(a,o)
noncomputable def cB(g h:Heap)(L d:Addr):List (Addr×Obj):=(Eb g h L).filter λp=>decide (p.1≠d)
structure Mod(K:K5)(mg:Lb)(base:Heap):Prop where
 kin:K.In base
 glob:base.Ns mainGlobals mg
 blt:∃mb,base.Ns builtinsNs mb/\∀x:Str,x≠"__name__"->mb x=bootBuiltins x
 nolimit:base.NoLimit
structure Cx where
 prog:Program
 w:World
 K:PySem.W.Frag
 mg:Str->Option Value
 base:Heap
 A:Around
 N:List Str
 s₀:Shared
 H₀:Hp
 env:Env
 outer:List Env
 stack:List Env
 ex:List Addr
 fn:Str->Bool
 calm:Bool
 pn:List (Addr×Obj)
 xe:Value->Shared->Prop
noncomputable def mM(l:List Env):List Addr:=l.filterMap (·.frame)
noncomputable abbrev Cx.fs(X:Cx):List Addr:=mM X.outer
noncomputable def GK(sc:Scope)(x:Str):Prop:=sc.names.lookup x=some .local\/sc.names.lookup x=some .cell\/sc.names.lookup x=some .free
noncomputable def Loc(sc:Scope)(x:Str):Prop:=sc.names.lookup x=some .local\/sc.names.lookup x=some .cell
noncomputable def GW(env:Env)(h:Heap)(m:Lb)(x:Str)(u:Value):Prop:=
 (env.kindOf x=some .local/\m x=some u)\/((env.kindOf x=some .cell\/env.kindOf x=some .free)/\∃c,env.cells.lookup x=some c/\h.IsCell c (some u))
structure Cx.Ok(X:Cx):Prop where
 mod:Mod X.K X.mg X.base
 kind:X.env.scope.kind=.function
 glob:X.env.globals=mainGlobals
 blt:X.env.builtins=builtinsNs
 above:X.s₀.heap.objs.size<=X.env.locals
 inj:∀x y c,X.env.cells.lookup x=some c->X.env.cells.lookup y=some c->x=y
 has:∀x,(X.env.kindOf x=some .cell\/X.env.kindOf x=some .free)->∃c,X.env.cells.lookup x=some c
 cab:∀x c,X.fn x=true->X.env.cells.lookup x=some c->X.s₀.heap.objs.size<=c
 hd:X.calm=true->X.A.handled=none
 frames:X.A.frames=some X.stack
 stk:X.stack=X.outer\/(X.stack=X.env::X.outer/\X.env.frame=some X.env.locals)
 exf:∀b∈X.ex,b≠X.env.locals/\∀x c,X.env.cells.lookup x=some c->c≠b
 bs:∀b o,X.base.get? b=some o->X.s₀.heap.get? b=some o/\X.H₀ b=none
 bsz:X.base.objs.size<=X.s₀.heap.objs.size
 noex:∀b o,X.base.get? b=some o->b∉X.ex
 exfs:∀b∈X.ex,b∉X.fs
 funs:X.s₀.heap.FunFrames X.base X.outer
 frf:∀b∈X.fs,X.H₀ b=none
structure Inv(X:Cx)(pins:K6)(σ:List (Option V))(H:Hp)(s:K8):Prop where
 ok:X.Ok
 os:s.os=X.s₀.os
 bare:AllBare s.gens
 base:Un X.fs X.ex X.H₀ H X.s₀.heap s.heap
 loc:∃m,s.heap.Ns X.env.locals m/\∀(i:Nat) (x:Str) (v:V),X.N[i]?=some x->σ[i]?=some (some v)->GK X.env.scope x->∃u,bq v u/\GW X.env s.heap m x u
 cell:∀x c,X.env.cells.lookup x=some c->∃v,s.heap.IsCell c v
 free:H X.env.locals=none
 freeC:∀x c,X.env.cells.lookup x=some c->H c=none
 pin:∀p∈X.pn++pins,s.heap.get? p.1=some p.2/\H p.1=none/\p.1≠X.env.locals/\p.1∉X.fs/\∀v,p.2.data≠.cell v
 hok:km X.prog X.w H s.heap
 len:σ.length=X.N.length
section
variable {X:Cx}{pins:K6}{σ:List (Option V)}{H H':Hp}{s:K8}{h':Heap}
theorem Cx.Ok.nofr(ok:X.Ok){b:Addr}{o:Obj}(e:X.base.get? b=some o):b∉X.fs:=λhb=>by
 have:=(ok.funs.mem hb).1;rw[e]at this;cases this
theorem Inv.bs(I:Inv X pins σ H s):∀b o,X.base.get? b=some o->s.heap.get? b=some o/\H b=none:=λb o e=>
 ⟨I.base.keep b o (I.ok.bs b o e).1 (I.ok.bs b o e).2 (I.ok.nofr e) (I.ok.noex b o e),I.base.free b o (I.ok.bs b o e).1 (I.ok.bs b o e).2 (I.ok.noex b o e)⟩
theorem Inv.bk(I:Inv X pins σ H s):∀b o,X.base.get? b=some o->s.heap.get? b=some o:=λb o e=>(I.bs b o e).1
theorem Inv.mod(I:Inv X pins σ H s):Mod X.K X.mg X.base:=I.ok.mod
theorem Inv.kIn(I:Inv X pins σ H s):X.K.In s.heap:=I.ok.mod.kin.keeps I.bk
theorem Inv.lt(I:Inv X pins σ H s):X.env.locals<s.heap.objs.size:=let ⟨_,hn,_⟩:=I.loc;hn.lt
theorem Inv.sz(I:Inv X pins σ H s):X.s₀.heap.objs.size<=s.heap.objs.size:=KD I.ok.above (Nat.le_of_lt I.lt)
theorem Inv.nofs(I:Inv X pins σ H s){a:Addr}(h:s.heap.objs.size<=a):a∉X.fs:=λhb=>by
 obtain⟨_,o,ho,_⟩:=I.ok.funs.mem hb;exact absurd (Kq (Ky ho) (KD I.sz h)) (KF _)
theorem Inv.cne(I:Inv X pins σ H s):∀x c,X.env.cells.lookup x=some c->c≠X.env.locals:=λx c e z=>by
 obtain⟨v,o,ho,hd⟩:=I.cell x c e;obtain⟨m,⟨o',es,ep,ho',hd',_⟩,_⟩:=I.loc;rw[z,ho']at ho;cases ho;rw[hd']at hd;cases hd
theorem Inv.funs(I:Inv X pins σ H s):s.heap.FunFrames X.base X.outer:=by
 have all:∀(l:List Env),(∀b∈mM l,b∈X.fs)->X.s₀.heap.FunFrames X.base l->s.heap.FunFrames X.base l:=by
  intro l
  induction l with
  |nil=>intro _ _;trivial
  |cons env r ih=>
   intro hs hl;obtain⟨hk,⟨L,o,hf,hn,ho,hd⟩,hr⟩:=hl;have hL:L∈X.fs:=hs L (by unfold mM;rw[List.filterMap_cons,hf];exact List.mem_cons_self);obtain⟨sl,e⟩:=I.base.slot L o ho (I.ok.frf L hL) hL λz=>I.ok.exfs L z hL;exact⟨hk,⟨L,_,hf,hn,e,hd⟩,ih (λb hb=>hs b (by unfold mM;rw[List.filterMap_cons,hf];exact Kn _ hb)) hr⟩
 exact all X.outer (λ_ hb=>hb) I.ok.funs
theorem Inv.stack(I:Inv X pins σ H s):s.heap.FunFrames X.base X.stack:=by
 rcases I.ok.stk with e | ⟨e,hf⟩
 ·rw[e];exact I.funs
 ·rw[e]
  obtain⟨m,hn,_⟩:=I.loc;refine .cons (by rw[I.ok.kind];decide) hf hn ?_ I.funs;exact Heap.get?_none_of_le (KD I.ok.bsz I.ok.above)
theorem Inv.stkSub(I:Inv X pins σ H s):∀b∈mM X.stack,b∈X.env.locals::X.fs:=λb hb=>by
 rcases I.ok.stk with e | ⟨e,hf⟩
 ·rw[e]at hb;exact Kn _ hb
 ·rw[e]at hb
  unfold mM at hb;rw[List.filterMap_cons,hf]at hb;exact hb
theorem Inv.stkFree(I:Inv X pins σ H s):∀b∈mM X.stack,H b=none:=λb hb=>by
 rcases Km.mp (I.stkSub b hb) with e | hb
 ·rw[e];exact I.free
 ·obtain⟨_,o,ho,_⟩:=I.ok.funs.mem hb
  exact I.base.free b o ho (I.ok.frf b hb) λz=>I.ok.exfs b z hb
theorem Inv.step{g':Array GenState}{t':Nat}{d':Drawn}{ch:La}(I:Inv X pins σ H s)
  (hch:∀b∈ch,(b∈X.ex\/X.s₀.heap.objs.size<=b)/\b≠X.env.locals/\(∀x c,X.env.cells.lookup x=some c->c≠b)/\∀p∈X.pn++pins,p.1≠b)
  (keep:∀b o,b≠X.env.locals->b∉X.fs->b∉ch->s.heap.get? b=some o->H b=none->h'.get? b=some o)
  (slot:∀b o,b≠X.env.locals->b∈X.fs->b∉ch->s.heap.get? b=some o->H b=none->∃sl,h'.get? b=some {o with slots:=sl}) (free:∀b o,b∉ch->s.heap.get? b=some o->H b=none->H' b=none)
  (there:∀b o,b∉ch->s.heap.get? b=some o->∃o',h'.get? b=some o')
  (tups:∀b xs,H b=some (.tup xs)->H' b=some (.tup xs)) (frzs:∀b o u,H b=some (.frz o u)->H' b=some (.frz o u)) (tbls:∀b ps,H b=some (.tbl ps)->∃more,H' b=some (.tbl (ps++more)))
  (ns:∀m,s.heap.Ns X.env.locals m->h'.Ns X.env.locals m) (hok:km X.prog X.w H' h') (hg:AllBare g') :
  Inv X pins σ H' {s with heap:=h',gens:=g',drawn:=d',toks:=t' }:=by
 have neL:∀b o,X.s₀.heap.get? b=some o->b≠X.env.locals:=λb o e=>Kr (Kq (Ky e) I.ok.above);have neC:∀b o,X.s₀.heap.get? b=some o->b∉X.ex->b∉ch:=λb o e hx hb=>by
  rcases(hch b hb).1 with z | z
  ·exact hx z
  ·exact absurd (Kq (Ky e) z) (KF _)
 have cellK:∀x c,X.env.cells.lookup x=some c->∀v,s.heap.IsCell c v->h'.IsCell c v:=λx c e v ⟨o,ho,hd⟩=>by
  have nch:c∉ch:=λz=>(hch c z).2.2.1 x c e rfl
  by_cases hc:c∈X.fs
  ·obtain⟨sl,q⟩:=slot c o (I.cne x c e) hc nch ho (I.freeC x c e)
   exact⟨_,q,hd⟩
  ·exact⟨o,keep c o (I.cne x c e) hc nch ho (I.freeC x c e),hd⟩
 refine⟨I.ok,I.os,hg,⟨λb o e n hb hx=>?_,λb o e n hb hx=>?_,λb o e n hx=>?_,λb o e hx=>?_,λb xs e=>tups b xs (I.base.tups b xs e),λb o xs e=>frzs b o xs (I.base.frzs b o xs e),λb ps e=>?_⟩,?_,λx c e=>?_,?_,λx c e=>?_,λp hp=>?_,hok,I.len⟩
 ·exact keep b o (neL b o e) hb (neC b o e hx) (I.base.keep b o e n hb hx) (I.base.free b o e n hx)
 ·obtain⟨sl,e1⟩:=I.base.slot b o e n hb hx
  obtain⟨sl',e2⟩:=slot b _ (neL b o e) hb (neC b o e hx) e1 (I.base.free b o e n hx);exact⟨sl',e2⟩
 ·obtain⟨o',e1⟩:=I.base.there b o e hx
  exact free b o' (neC b o e hx) e1 (I.base.free b o e n hx)
 ·obtain⟨o',e1⟩:=I.base.there b o e hx
  exact there b o' (neC b o e hx) e1
 ·obtain⟨m1,e1⟩:=I.base.tbls b ps e
  obtain⟨m2,e2⟩:=tbls b _ e1;exact⟨m1++m2,by rw[e2,Array.append_assoc]⟩
 ·obtain⟨m,hn,hl⟩:=I.loc
  refine⟨m,ns m hn,λi x v e1 e2 e3=>?_⟩;obtain⟨u,r,l⟩:=hl i x v e1 e2 e3;refine⟨u,r,?_⟩;rcases l with l | ⟨k,c,e,z⟩
  ·exact .inl l
  ·exact .inr ⟨k,c,e,cellK x c e _ z⟩
 ·obtain⟨v,z⟩:=I.cell x c e
  exact⟨v,cellK x c e v z⟩
 ·obtain⟨m,⟨o,_,_,ho,_⟩,_⟩:=I.loc
  exact free _ o (λz=>(hch _ z).2.1 rfl) ho I.free
 ·obtain⟨v,o,ho,hd⟩:=I.cell x c e
  exact free c o (λz=>(hch c z).2.2.1 x c e rfl) ho (I.freeC x c e)
 ·obtain⟨e,n,ne,nf,d⟩:=I.pin p hp
  have nch:p.1∉ch:=λz=>(hch p.1 z).2.2.2 p hp rfl;exact⟨keep p.1 p.2 ne nf nch e n,free p.1 p.2 nch e n,ne,nf,d⟩
theorem Inv.un{t':Nat}(I:Inv X pins σ H s)(u:Un X.fs [] H H' s.heap h')(hok:km X.prog X.w H' h'):Inv X pins σ H' {s with heap:=h',toks:=t' }:=by
 obtain⟨m,⟨o,es,ep,ho,r⟩,_⟩:=id I.loc;obtain⟨sl,hL⟩:=u.any ho I.free (by simp);exact I.step (g':=s.gens) (d':=s.drawn) (ch:=[]) (λ_ z=>nomatch z) (λb o _ hb _ e n=>u.keep b o e n hb (by simp)) (λb o _ hb _ e n=>u.slot b o e n hb (by simp)) (λb o _ e n=>u.free b o e n (by simp)) (λb o _ e=>u.there b o e (by simp)) u.tups u.frzs u.tbls (λm' hm=>by
  obtain⟨o',es',ep',ho',r'⟩:=hm;rw[ho]at ho';cases ho'
  exact⟨_,es',ep',hL,r'⟩) hok I.bare
theorem Inv.call{g':Array GenState}{t':Nat}{d':Drawn}{ch:La}(I:Inv X pins σ H s)(u:Un (mM X.stack) ch H H' s.heap h')(hok:km X.prog X.w H' h')(hg:AllBare g')
  (hch:∀b∈ch,(b∈X.ex\/X.s₀.heap.objs.size<=b)/\b≠X.env.locals/\(∀x c,X.env.cells.lookup x=some c->c≠b)/\∀p∈X.pn++pins,p.1≠b) :
  Inv X pins σ H' {s with heap:=h',gens:=g',drawn:=d',toks:=t' }:=by
 obtain⟨m,⟨o,es,ep,ho,r⟩,_⟩:=id I.loc;obtain⟨sl,hL⟩:=u.any ho I.free λz=>(hch _ z).2.1 rfl;exact I.step (ch:=ch) hch (λb o hL hb hc e n=>u.keep b o e n (λz=>(Km.mp (I.stkSub b z)).elim hL hb) hc) (λb o _ _ hc e n=>u.any e n hc) (λb o hc e n=>u.free b o e n hc) (λb o hc e=>u.there b o e hc) u.tups u.frzs u.tbls (λm' hm=>by
  obtain⟨o',es',ep',ho',r'⟩:=hm;rw[ho]at ho';cases ho'
  exact⟨_,es',ep',hL,r'⟩) hok hg
theorem Inv.turned{t':Nat}{it:Addr}(I:Inv X pins σ H s)(k:∀b o,b≠it->s.heap.get? b=some o->h'.get? b=some o)(hn:H it=none)(hL:it≠X.env.locals)
  (h1:it∈X.ex\/X.s₀.heap.objs.size<=it) (h2:∀x c,X.env.cells.lookup x=some c->c≠it) (h3:∀p∈X.pn++pins,p.1≠it):Inv X pins σ H {s with heap:=h',toks:=t' }:=by
 have nit:∀b u,H b=some u->b≠it:=λb u e z=>by rw[z,hn]at e;cases e
 refine I.step (g':=s.gens) (d':=s.drawn) (ch:=[it]) (λb hb=>?_) (λb o _ _ hc e _=>k b o (λz=>hc (by simp[z])) e) (λb o _ _ hc e _=>⟨o.slots,k b o (λz=>hc (by simp[z])) e⟩) (λ_ _ _ _ n=>n)
  (λb o hc e=>⟨o,k b o (λz=>hc (by simp[z])) e⟩) (λ_ _ e=>e) (λ_ _ _ e=>e) (λb ps e=>⟨#[],by rw[e];simp⟩) (λm hm=>?_) (λb u e=>?_) I.bare
 ·have e:b=it:=by simpa using hb
  subst e;exact⟨h1,hL,h2,h3⟩
 ·obtain⟨o,es,ep,ho,r⟩:=hm
  exact⟨o,es,ep,k _ o (Ne.symm hL) ho,r⟩
 ·refine(I.hok b u e).stay (λc v hc q=>k c v ?_ q) (λ_ q=>q) λ_ _ q=>q
  rcases hc with z | z
  ·rw[z];exact nit b u e
  ·exact nit c _ z
theorem Inv.tok(I:Inv X pins σ H s)(t:Nat):Inv X pins σ H {s with toks:=t}:=I.un (h':=s.heap) (t':=t) Un.refl I.hok
theorem Inv.kept{t':Nat}(I:Inv X pins σ H s)(k:∀b u,s.heap.get? b=some u->h'.get? b=some u):Inv X pins σ H {s with heap:=h',toks:=t' }:=I.un (Un.kept k) (I.hok.kept k)
theorem Inv.laid{a:Addr}{o:HO}{t':Nat}(I:Inv X pins σ H s)(k:∀b u,s.heap.get? b=some u->h'.get? b=some u)(hp:s.heap.objs.size<=a)(new:bS X.prog X.w (ax H a o) h' a o) :
  Inv X pins σ (ax H a o) {s with heap:=h',toks:=t' }:=I.un (Un.laid k hp (I.hok.fresh hp)) (I.hok.laid k hp new)
theorem Inv.write{x e:Addr}{o:HO}{t':Nat}(I:Inv X pins σ H s)(mu:GC (H x))(he:e=x\/H e=some (.own x))(k:∀b u,b≠e->s.heap.get? b=some u->h'.get? b=some u)(heo:∃u,h'.get? e=some u)
  (new:bS X.prog X.w (ax H x o) h' x o):Inv X pins σ (ax H x o) {s with heap:=h',toks:=t' }:=I.un (Un.write mu he k heo) (I.hok.write mu he k heo new)
theorem Inv.pins_of{pins':K6}(I:Inv X pins σ H s)(h:∀p∈pins',s.heap.get? p.1=some p.2/\H p.1=none/\p.1≠X.env.locals/\p.1∉X.fs/\∀v,p.2.data≠.cell v):Inv X pins' σ H s:=
 ⟨I.ok,I.os,I.bare,I.base,I.loc,I.cell,I.free,I.freeC,λp hp=>(Kk.mp hp).elim (λz=>I.pin p (List.mem_append_left _ z)) (h p),I.hok,I.len⟩
theorem vV{N:Le}(hN:N.Nodup){i j:Nat}{x:Str}(a:N[i]?=some x)(b:N[j]?=some x):i=j:=by
 obtain⟨h1,e1⟩:=J8.mp a;obtain⟨h2,e2⟩:=J8.mp b;exact(List.getElem_inj hN).mp (e1.trans e2.symm)
theorem sF{M:Model}{A:Lf}{E:K4}{i:Nat}{x:Str}{v:V}{u:Value}{Q:Unit->Shared->Prop}(I:Inv X pins σ H s)(hN:X.N.Nodup)(hi:X.N[i]?=some x)(hx:Loc X.env.scope x)(r:bq v u)
  (h:∀s',Inv X pins (σ.set i (some v)) H s'->(∃a,Heap.SameBut a s.heap s'.heap/\(a=X.env.locals\/X.env.cells.lookup x=some a))->Q () s') (hf:autoParam (X.fn x=true\/X.env.scope.names.lookup x=some .local) zz3._auto_1):wpAny M A (storeName X.env x u) Q E s:=by
 obtain⟨m,hn,hl⟩:=id I.loc;have hcls:(X.env.scope.kind==.class||(X.env.scope.kind==.module&&X.env.locals != X.env.globals))=false:=by rw[I.ok.kind];rfl
 have hiσ:i<σ.length:=by rw[I.len];exact(J8.mp hi).1
 have cne:=I.cne;have tracked:∀{a:Addr} {h':Heap},(∃o,s.heap.get? a=some o/\H a=none)->Heap.SameBut a s.heap h'->km X.prog X.w H h':=fun{a h'} ha hs b ob e=>by
  obtain⟨_,_,hfree⟩:=ha;refine(I.hok b ob e).stay (λc w' hc q=>(hs.2 c ?_).trans q) (λ_ q=>q) λ_ _ q=>q;rintro rfl;rcases hc with rfl | hc
  ·rw[hfree]at e;cases e
  ·rw[hfree]at hc;cases hc
 rcases hx with hk | hk
 ·refine wpAny_storeName_local hk hn (λh' hn' hs=>?_) hcls
  obtain⟨oL,_,_,hoL,_⟩:=id hn;refine h _ ⟨I.ok,I.os,I.bare,⟨λb o e n hb hx=>?_,λb o e n hb hx=>?_,I.base.free,λb o e hx=>?_,I.base.tups,I.base.frzs,I.base.tbls⟩,⟨_,hn',λj y v' e1 e2 e3=>?_⟩,λy c e=>?_,I.free,I.freeC,λp hp=>?_,tracked ⟨oL,hoL,I.free⟩ hs,by simpa using I.len⟩ ⟨_,hs,.inl rfl⟩
  ·exact(hs.2 b (Kr (Kq (Ky e) I.ok.above))).trans (I.base.keep b o e n hb hx)
  ·obtain⟨sl,e1⟩:=I.base.slot b o e n hb hx
   exact⟨sl,(hs.2 b (Kr (Kq (Ky e) I.ok.above))).trans e1⟩
  ·obtain⟨o',e1⟩:=I.base.there b o e hx
   exact⟨o',(hs.2 b (Kr (Kq (Ky e) I.ok.above))).trans e1⟩
  ·by_cases hj:j=i
   ·subst hj
    rw[hi]at e1;cases e1
    rw[KJ hiσ]at e2;cases e2;exact⟨u,r,.inl ⟨hk,by simp⟩⟩
   ·rw[List.getElem?_set_ne (Ne.symm hj)]at e2
    obtain⟨u',r',q⟩:=hl j y v' e1 e2 e3;refine⟨u',r',?_⟩;rcases q with⟨k,e⟩ | ⟨k,c,e,z⟩
    ·refine .inl ⟨k,?_⟩
     have:y≠x:=λe=>hj (vV hN e1 (e▸hi));simp[this,e]
    ·exact .inr ⟨k,c,e,z.sameBut hs (cne y c e)⟩
  ·obtain⟨w',z⟩:=I.cell y c e
   exact⟨w',z.sameBut hs (cne y c e)⟩
  ·obtain⟨e,n,ne,nf,d⟩:=I.pin p hp
   exact⟨(hs.2 p.1 ne).trans e,n,ne,nf,d⟩
 ·have hfn:X.fn x=true:=by
   rcases hf with z | z
   ·exact z
   ·rw[z]at hk;cases hk
  obtain⟨c,hc⟩:=I.ok.has x (.inl hk);obtain⟨w',z⟩:=I.cell x c hc;refine wpAny_storeName_cell I.ok.kind hk hc z (λh' hc' hs=>?_);obtain⟨oc,hoc,hocd⟩:=id z;refine h {s with heap:=h' } ⟨I.ok,I.os,I.bare,⟨λb o e n hb hx=>?_,λb o e n hb hx=>?_,I.base.free,λb o e hx=>?_,I.base.tups,I.base.frzs,I.base.tbls⟩,⟨m,hn.sameBut hs (Ne.symm (cne x c hc)),λj y v' e1 e2 e3=>?_⟩,λy c' e=>?_,I.free,I.freeC,λp hp=>?_,tracked ⟨oc,hoc,I.freeC x c hc⟩ hs,by simpa using I.len⟩ ⟨c,hs,.inr hc⟩
  ·exact(hs.2 b (Kr (Kq (Ky e) (I.ok.cab x c hfn hc)))).trans (I.base.keep b o e n hb hx)
  ·obtain⟨sl,e1⟩:=I.base.slot b o e n hb hx
   exact⟨sl,(hs.2 b (Kr (Kq (Ky e) (I.ok.cab x c hfn hc)))).trans e1⟩
  ·obtain⟨o',e1⟩:=I.base.there b o e hx
   exact⟨o',(hs.2 b (Kr (Kq (Ky e) (I.ok.cab x c hfn hc)))).trans e1⟩
  ·by_cases hj:j=i
   ·subst hj
    rw[hi]at e1;cases e1
    rw[KJ hiσ]at e2;cases e2;exact⟨u,r,.inr ⟨.inl hk,c,hc,hc'⟩⟩
   ·rw[List.getElem?_set_ne (Ne.symm hj)]at e2
    obtain⟨u',r',q⟩:=hl j y v' e1 e2 e3;refine⟨u',r',?_⟩;rcases q with q | ⟨k,c',e,z'⟩
    ·exact .inl q
    ·refine .inr ⟨k,c',e,z'.sameBut hs ?_⟩
     rintro rfl;exact hj (vV hN e1 (I.ok.inj _ _ _ e hc▸hi))
  ·by_cases hcc:c'=c
   ·subst hcc;exact⟨_,hc'⟩
   ·obtain⟨w2,z2⟩:=I.cell y c' e
    exact⟨w2,z2.sameBut hs hcc⟩
  ·obtain⟨e,n,ne,nf,d⟩:=I.pin p hp
   refine⟨(hs.2 p.1 ?_).trans e,n,ne,nf,d⟩;intro q;rw[q,hoc]at e;have q':oc=p.2:=Option.some.inj e;exact d w' (by rw[<- q'];exact hocd)
theorem wk{M:Model}{A:Lf}{E:K4}{i:Nat}{x:Str}{v:V}{u:Value}{Q:Unit->Shared->Prop}(I:Inv X pins σ H s)(hN:X.N.Nodup)(hi:X.N[i]?=some x)(hx:Loc X.env.scope x)(r:bq v u)
  (h:∀s',Inv X pins (σ.set i (some v)) H s'->Q () s') (hf:autoParam (X.fn x=true\/X.env.scope.names.lookup x=some .local) zz3._auto_1):wpAny M A (storeName X.env x u) Q E s:=
 sF I hN hi hx r (λs' I' _=>h s' I') hf
theorem Inv.call'{s':K8}{ch:La}(I:Inv X pins σ H s)(ho:s'.os=s.os)(u:Un (mM X.stack) ch H H' s.heap s'.heap)(hok:km X.prog X.w H' s'.heap)(hg:AllBare s'.gens)
  (hch:∀b∈ch,(b∈X.ex\/X.s₀.heap.objs.size<=b)/\b≠X.env.locals/\(∀x c,X.env.cells.lookup x=some c->c≠b)/\∀p∈X.pn++pins,p.1≠b):Inv X pins σ H' s':=by
 obtain⟨h',g',d',t',o'⟩:=s';have e:o'=s.os:=ho;subst e;exact I.call (g':=g') (t':=t') (d':=d') u hok hg hch
end
noncomputable abbrev XK:=Value->Option Addr->Hp->Prop
noncomputable abbrev St:=List (Option V)
noncomputable abbrev VK:=V->Hp->Prop
noncomputable abbrev TE:=St->Hp->VK->Prop
noncomputable abbrev TT:=St->Hp->(Bool->Hp->Prop)->Prop
noncomputable abbrev TA:=St->Hp->(List V->Hp->Prop)->Prop
structure iK where
 nx:St->Hp->Prop
 rt:VK
 bk:St->Hp->Prop:=λ_ _=>False
 ct:St->Hp->Prop:=λ_ _=>False
noncomputable abbrev TS:=iK->St->Hp->Prop
noncomputable def EP(X:Cx)(pins:K6)(σ:St)(Q:VK)(u:Value)(s':K8):Prop:=∃v H',Inv X pins σ H' s'/\bq v u/\Q v H'
noncomputable def TP(X:Cx)(pins:K6)(σ:St)(Q:Bool->Hp->Prop)(b:Bool)(s':K8):Prop:=∃H',Inv X pins σ H' s'/\Q b H'
noncomputable def AP(X:Cx)(pins:K6)(σ:St)(Q:List V->Hp->Prop)(us:K9)(s':K8):Prop:=∃vs H',Inv X pins σ H' s'/\bg vs us/\Q vs H'
noncomputable def SP(X:Cx)(pins:K6)(D:iK)(f:Flow)(s':K8):Prop:=
 match f with
 | .next=>∃σ' H',Inv X pins σ' H' s'/\D.nx σ' H'
 | .brk=>∃σ' H',Inv X pins σ' H' s'/\D.bk σ' H'
 | .cont=>∃σ' H',Inv X pins σ' H' s'/\D.ct σ' H'
 | .ret u=>∃v σ' H',Inv X pins σ' H' s'/\bq v u/\D.rt v H'
noncomputable def PE(X:Cx)(e:Expr)(t:TE):Prop:=
 ∀(pins:K6) (s:K8) (σ:St) (H:Hp) (Q:VK),Inv X pins σ H s->t σ H Q->wpAny (model X.prog X.w) X.A (eval e X.env) (EP X pins σ Q) X.xe s
noncomputable def PT(X:Cx)(e:Expr)(t:TT):Prop:=
 ∀(pins:K6) (s:K8) (σ:St) (H:Hp) (Q:Bool->Hp->Prop),Inv X pins σ H s->t σ H Q->wpAny (model X.prog X.w) X.A (isTrue e X.env (eval e X.env)) (TP X pins σ Q) X.xe s
noncomputable def PW(X:Cx)(e:Expr)(t:TT):Prop:=
 ∀(whole:Sem Value) (pins:K6) (s:K8) (σ:St) (H:Hp) (Q:Bool->Hp->Prop),Inv X pins σ H s->t σ H Q->wpAny (model X.prog X.w) X.A (isTrue e X.env whole) (TP X pins σ Q) X.xe s
theorem PW.pt{X:Cx}{e:Expr}{t:TT}(h:PW X e t):PT X e t:=h _
noncomputable def PA(X:Cx)(es:Li)(t:TA):Prop:=
 ∀(pos:Pos) (pins:K6) (s:K8) (σ:St) (H:Hp) (Q:List V->Hp->Prop),Inv X pins σ H s->t σ H Q->wpAny (model X.prog X.w) X.A (spliced (backTo pos (starEach es X.env))) (AP X pins σ Q) X.xe s
noncomputable def PS(X:Cx)(st:Stmt)(t:TS):Prop:=
 ∀(pins:K6) (s:K8) (σ:St) (H:Hp) (D:iK),Inv X pins σ H s->t D σ H->wpAny (model X.prog X.w) X.A (exec st X.env) (SP X pins D) X.xe s
noncomputable def wx(X:Cx)(st:List Stmt)(t:TS):Prop:=
 ∀(pins:K6) (s:K8) (σ:St) (H:Hp) (D:iK),Inv X pins σ H s->t D σ H->wpAny (model X.prog X.w) X.A (execs st X.env) (SP X pins D) X.xe s
theorem bZ{α:Type}{t:Sem α}{Q Q':α->Shared->Prop}{M:Model}{A:Lf}{E:K4}{s:K8}(h:wpAny M A t Q E s)(hQ:∀a s,Q a s->Q' a s):wpAny M A t Q' E s:=wpAny_mono h hQ λ_ _ x=>x
section
variable {X:Cx}
theorem J5{a b:Expr}{ta tb:TE}(ha:PE X a ta)(hb:PE X b tb){pins:K6}{s:K8}{σ:St}{H:Hp}{R:V->V->Hp->Prop}(I:Inv X pins σ H s)(h:ta σ H λx H1=>tb σ H1 λy H2=>R x y H2)
  {α:Type} {Q:α->Shared->Prop} {f:Value->Value->Sem α}
  (hf:∀v u s2 x y H2,Inv X pins σ H2 s2->bq x v->bq y u->R x y H2->wpAny (model X.prog X.w) X.A (f v u) Q X.xe s2) :
  wpAny (model X.prog X.w) X.A (eval a X.env) (λv s₁=>wpAny (model X.prog X.w) X.A (eval b X.env) (λu s₂=>wpAny (model X.prog X.w) X.A (f v u) Q X.xe s₂) X.xe s₁) X.xe s:=by
 refine bZ (ha pins s σ H _ I h) λv s1 ⟨x,H1,I1,r1,q1⟩=>?_;refine bZ (hb pins s1 σ H1 _ I1 q1) λu s2 ⟨y,H2,I2,r2,q2⟩=>?_;exact hf v u s2 x y H2 I2 r1 r2 q2
noncomputable def Ba(i:Nat):TE:=λσ H Q=>∃v,σ[i]?=some (some v)/\Q v H
noncomputable def tC(v:V):TE:=λ_ H Q=>Q v H
theorem FV{i:Nat}{x:Str}{pos:Pos}(hN:X.N[i]?=some x)(hv:GK X.env.scope x)(hd:autoParam ((x==("__debug__":Str))=false) zz1._auto_1)(hcd:autoParam ((x==("__classdict__":Str))=false) zz1._auto_1):PE X (.Name x pos) (Ba i):=by
 intro pins s σ H Q I h;obtain⟨v,e,h⟩:=h;obtain⟨m,hn,hl⟩:=I.loc;obtain⟨u,r,l⟩:=hl i x v hN e hv;have fin:EP X pins σ Q u s:=⟨v,H,I,r,h⟩;rcases l with⟨hk,hm⟩ | ⟨hk,c,hc,hcell⟩
 ·exact wpAny_Name (wpAny_loadName_local I.ok.kind hk hn hm fin) hd
 ·rcases hk with hk | hk
  ·exact wpAny_Name (wpAny_loadName_cell I.ok.kind hk hc hcell fin) hd
  ·exact wpAny_Name (wpAny_loadName_free I.ok.kind hk hc hcell fin hcd) hd
theorem aj{i j pos}:PE X (.Constant (.int i) j pos) (tC (.int i)):=λ_ _ _ H _ I h=>wpAny_Constant_int ⟨.int i,H,I.tok _,⟨_,rfl⟩,h⟩
theorem yy{b j pos}:PE X (.Constant (.bool b) j pos) (tC (.bl b)):=λ_ _ _ H _ I h=>Constant_bool ⟨.bl b,H,I,rfl,h⟩
theorem nG{j pos}:PE X (.Constant .none j pos) (tC .non):=λ_ _ _ H _ I h=>Constant_none ⟨.non,H,I,rfl,h⟩
theorem jX{x j pos}:PE X (.Constant (.str x) j pos) (tC (.str x)):=λ_ _ _ H _ I h=>Calls.Constant_str ⟨.str x,H,I.tok _,⟨_,rfl⟩,h⟩
noncomputable def Gl(X:Cx)(x:Str):Prop:=X.env.kindOf x=some .globalImplicit
theorem kl{E:K4}{pins:K6}{s:K8}{σ:St}{H:Hp}{x:Str}{u:Value}{pos:Pos}{Q:K4}(I:Inv X pins σ H s)(hg:Gl X x)(hm:X.mg x=some u)(h:Q u s)
  (hd:autoParam ((x==("__debug__":Str))=false) zz1._auto_1):wpAny (model X.prog X.w) X.A (eval (.Name x pos) X.env) Q E s:=
 Calls.Name_function_global I.ok.kind hg (Calls.loadGlobal_global (by rw[I.ok.glob];exact I.mod.glob.keeps I.bk) hm h) hd
theorem e_{E:K4}{pins:K6}{s:K8}{σ:St}{H:Hp}{x:Str}{u:Value}{pos:Pos}{Q:K4}(I:Inv X pins σ H s)(hg:Gl X x)(hm:X.mg x=none)(hv:bootBuiltins x=some u)(h:Q u s)
  (hn:autoParam (x≠"__name__") zz1._auto_1) (hd:autoParam ((x==("__debug__":Str))=false) zz1._auto_1):wpAny (model X.prog X.w) X.A (eval (.Name x pos) X.env) Q E s:=by
 obtain⟨mb,h1,h2⟩:=I.mod.blt;exact Calls.Name_function_global I.ok.kind hg (Calls.loadGlobal_builtin (by rw[I.ok.glob];exact I.mod.glob.keeps I.bk) hm (by rw[I.ok.blt];exact h1.keeps I.bk) ((h2 x hn).trans hv) h) hd
theorem dG{x:Str}{v:V}{u:Value}{pos:Pos}(hg:Gl X x)(hm:X.mg x=some u)(r:bq v u)(hd:autoParam ((x==("__debug__":Str))=false) zz1._auto_1):PE X (.Name x pos) (tC v):=
 λ_ _ _ H _ I h=>kl I hg hm ⟨v,H,I,r,h⟩ hd
theorem yD{x:Str}{v:V}{u:Value}{pos:Pos}(hg:Gl X x)(hm:X.mg x=none)(hv:bootBuiltins x=some u)(r:bq v u)(hn:autoParam (x≠"__name__") zz1._auto_1)(hd:autoParam ((x==("__debug__":Str))=false) zz1._auto_1):PE X (.Name x pos) (tC v):=
 λ_ _ _ H _ I h=>e_ I hg hm hv ⟨v,H,I,r,h⟩ hn hd
variable {a b:Expr}{ta tb:TE}{pos:Pos}
noncomputable def PC(X:Cx)(op:CmpOp)(a b:Expr)(t:TE):Prop:=
 ∀(pins:K6) (s:K8) (σ:St) (H:Hp) (Q:VK),Inv X pins σ H s->t σ H Q ->
  wpAny (model X.prog X.w) X.A (eval a X.env) (λv s₁=>wpAny (model X.prog X.w) X.A (eval b X.env) (λu s₂=>wpAny (model X.prog X.w) X.A (compareOp op v u) (EP X pins σ Q) X.xe s₂) X.xe s₁) X.xe s
theorem BC(b:Expr){op:CmpOp}(h:op≠.In)(h2:op≠.NotIn):behindInMarks op b=false:=by
 have e1:(op==CmpOp.In)=false:=by cases op<;>first | rfl | exact absurd rfl h
 have e2:(op==CmpOp.NotIn)=false:=by cases op<;>first | rfl | exact absurd rfl h2
 cases b<;>simp[behindInMarks,e1,e2]
noncomputable def tB(t:TE):TT:=λσ H Q=>t σ H λx H1=>∃c,x=.bl c/\Q c H1
theorem BJ{op:CmpOp}{t:TE}(h:PC X op a b t)(h1:behindInMarks op b=false:=by first | exact BC _ nofun nofun | rfl):PT X (.Compare a [op] [b] pos) (tB t):=by
 intro pins s σ H Q I hw;refine wpAny_isTrue_Compare1 (bZ (h pins s σ H _ I hw) λv s1 h1=>bZ h1 λu s2 h2=>bZ h2 λc s3 ⟨x,H1,I1,r1,q1⟩=>?_) h1;obtain⟨d,rfl,q⟩:=q1;cases r1;exact wpAny_truthy_bool ⟨H1,I1,q⟩
variable {tA tB':TT}{cB:Li}
noncomputable def EX(t u:TT):TT:=λσ H Q=>t σ H λc H1=>if c=true then u σ H1 Q else Q false H1
noncomputable def G9(t u:TT):TT:=λσ H Q=>t σ H λc H1=>if c=true then Q true H1 else u σ H1 Q
noncomputable def Ff(t:TT):TT:=λσ H Q=>t σ H λc H1=>Q (!c) H1
theorem l8(ha:PT X a tA):PW X (.BoolOp .And [a] pos) tA:=by
 intro wh pins s σ H Q I h;refine isTrue_and (bZ (ha pins s σ H Q I h) λc s1 e=>?_);cases c with
 |true=>exact isTrue_and_nil e
 |false=>exact e
theorem gO(ha:PT X a tA):PW X (.BoolOp .Or [a] pos) tA:=by
 intro wh pins s σ H Q I h;refine isTrue_or (bZ (ha pins s σ H Q I h) λc s1 e=>?_);cases c with
 |false=>exact isTrue_or_nil e
 |true=>exact e
theorem lP(ha:PT X a tA)(hb:PW X (.BoolOp .And (b::cB) pos) tB'):PW X (.BoolOp .And (a::b::cB) pos) (EX tA tB'):=by
 intro wh pins s σ H Q I h;refine isTrue_and (bZ (ha pins s σ H _ I h) λc s1 ⟨H1,I1,q1⟩=>?_);cases c with
 |true=>exact hb wh pins s1 σ H1 Q I1 q1
 |false=>exact⟨H1,I1,q1⟩
theorem lm(ha:PT X a tA)(hb:PW X (.BoolOp .Or (b::cB) pos) tB'):PW X (.BoolOp .Or (a::b::cB) pos) (G9 tA tB'):=by
 intro wh pins s σ H Q I h;refine isTrue_or (bZ (ha pins s σ H _ I h) λc s1 ⟨H1,I1,q1⟩=>?_);cases c with
 |true=>exact⟨H1,I1,q1⟩
 |false=>exact hb wh pins s1 σ H1 Q I1 q1
theorem ly(ha:PT X a tA):PT X (.UnaryOp .Not a pos) (Ff tA):=by
 intro pins s σ H Q I h;exact isTrue_not (ha pins s σ H (λc H1=>Q (!c) H1) I h)
noncomputable def Cw(ta tb:TE):TE:=λσ H Q=>ta σ H λx H1=>∃c,x=.bl c/\if c=true then tb σ H1 Q else Q (.bl false) H1
noncomputable def BI(ta:TE):TE:=λσ H Q=>ta σ H λx H1=>∃c,x=.bl c/\Q (.bl (!c)) H1
theorem xH{op}{t:TE}(h:PE X a t):PE X (.BoolOp op [a] pos) t:=λpins s σ H Q I hw=>BoolOp_one (h pins s σ H Q I hw)
theorem uc(ha:PE X a ta)(hb:PE X (.BoolOp .And (b::cB) pos) tb):PE X (.BoolOp .And (a::b::cB) pos) (Cw ta tb):=by
 intro pins s σ H Q I h;refine BoolOp_and (bZ (ha pins s σ H _ I h) λv s1 ⟨x,H1,I1,r1,q1⟩=>?_);obtain⟨c,rfl,q1⟩:=q1;cases r1;refine wpAny_truthy_bool ?_;cases c with
 |true=>exact hb pins s1 σ H1 Q I1 q1
 |false=>exact⟨.bl false,H1,I1,rfl,q1⟩
theorem E4(ha:PE X a ta):PE X (.UnaryOp .Not a pos) (BI ta):=by
 intro pins s σ H Q I h;refine UnaryOp_ (bZ (ha pins s σ H _ I h) λv s1 ⟨x,H1,I1,r1,q1⟩=>?_);obtain⟨c,rfl,q1⟩:=q1;cases r1;exact not_of (wpAny_truthy_bool ⟨.bl (!c),H1,I1,rfl,q1⟩)
noncomputable def GU(t:TT)(ta tb:TE):TE:=λσ H Q=>t σ H λc H1=>if c=true then ta σ H1 Q else tb σ H1 Q
theorem vq{c:Expr}(hc:PT X c tA)(ha:PE X a ta)(hb:PE X b tb):PE X (.IfExp c a b pos) (GU tA ta tb):=by
 intro pins s σ H Q I h;refine wpAny_IfExp (bZ (hc pins s σ H _ I h) λd s1 ⟨H1,I1,q1⟩=>?_);cases d with
 |true=>exact ha pins s1 σ H1 Q I1 q1
 |false=>exact hb pins s1 σ H1 Q I1 q1
end
noncomputable def aS(K:K5)(H:Hp)(a:Addr)(xs:List V):Prop:=
 Rd H a (.lst xs) \/
  ∃(o:Obj) (its:Array Value) (n:Nat),K.lookup a=some o/\o.cls=.type "list"/\o.dict=none/\o.data=.seq its n/\its.size<=sizeLine/\bg xs its.toList
noncomputable def bh(K:K5)(H:Hp)(a:Addr)(xs:List V):Prop:=
 Rd H a (.tup xs) \/
  ∃(o:Obj) (its:Array Value) (n:Nat),K.lookup a=some o/\o.cls=.type "tuple"/\o.data=.seq its n/\its.size<=sizeLine/\bg xs its.toList
noncomputable def Hb:Value->Option V
 | .none=>some .non
 | .bool b=>some (.bl b)
 | .int i _=>some (.int i)
 | .str x _=>some (.str x)
 | .bytes b _=>some (.byt b)
 | .float b _=>some (.flt b)
 | .ref a=>some (.ref a)
 | .type n=>some (.ty n)
 |_=>none
theorem bq.abs{x:V}{u:Value}(r:bq x u):Hb u=some x:=by
 cases x with
 |non=>cases r;rfl
 |bl _=>cases r;rfl
 |int _=>obtain⟨t,rfl⟩:=r;rfl
 |str _=>obtain⟨t,rfl⟩:=r;rfl
 |byt _=>obtain⟨t,rfl⟩:=r;rfl
 |flt _=>obtain⟨t,rfl⟩:=r;rfl
 |ref _=>cases r;rfl
 |ty _=>cases r;rfl
theorem bq.inj{x y:V}{u:Value}(r:bq x u)(q:bq y u):x=y:=Option.some.inj (r.abs.symm.trans q.abs)
theorem bg.inj:∀{xs ys:List V} {us:K9},bg xs us->bg ys us->xs=ys
 |_,_,_,.nil,.nil=>rfl
 |_,_,_,.cons r t,.cons r' t'=>by rw[r.inj r',bg.inj t t']
section
variable {X:Cx}{pins:K6}{σ:St}{H:Hp}{s:K8}{a:Addr}{xs ys:List V}
theorem aS.of{K:K5}(h:H a=some (.lst xs)):aS K H a xs:=.inl (.inl h)
theorem bh.of{K:K5}(h:H a=some (.tup xs)):bh K H a xs:=.inl (.inl h)
theorem Inv.list(I:Inv X pins σ H s)(h:aS X.K H a xs):∃its:List Value,bg xs its/\PlainL s.heap a its.toArray/\xs.length<=sizeLine:=by
 rcases h with h | ⟨o,its,n,hk,hc,hd,hs,hz,r⟩
 ·obtain⟨z,its,n,r,e⟩:=h.ok I.hok
  exact⟨its,r,⟨_,n,e,rfl,rfl,rfl⟩,z⟩
 ·refine⟨its.toList,r,⟨o,n,I.kIn a o hk,hc,hd,by simpa using hs⟩,?_⟩
  have e:=r.length;simp only[Array.length_toList]at e;omega
theorem Inv.tuple(I:Inv X pins σ H s)(h:bh X.K H a xs):∃its:List Value,bg xs its/\IsTup s.heap a its.toArray/\xs.length<=sizeLine:=by
 rcases h with h | ⟨o,its,n,hk,hc,hs,hz,r⟩
 ·obtain⟨z,its,r,p⟩:=h.ok I.hok
  exact⟨its,r,p,z⟩
 ·refine⟨its.toList,r,⟨o,I.kIn a o hk,hc,n,by simpa using hs⟩,?_⟩
  have e:=r.length;simp only[Array.length_toList]at e;omega
theorem Inv.list_inj(I:Inv X pins σ H s)(h:aS X.K H a xs)(h':aS X.K H a ys):xs=ys:=by
 obtain⟨its,r,⟨o,n,e,_,_,d⟩,_⟩:=I.list h;obtain⟨its',r',⟨o',n',e',_,_,d'⟩,_⟩:=I.list h';rw[e]at e';cases e'
 rw[d]at d'
 injection d' with d1 _
 have:its=its':=by simpa using congrArg Array.toList d1
 subst this;exact r.inj r'
theorem Inv.tuple_inj(I:Inv X pins σ H s)(h:bh X.K H a xs)(h':bh X.K H a ys):xs=ys:=by
 obtain⟨its,r,⟨o,e,_,n,d⟩,_⟩:=I.tuple h;obtain⟨its',r',⟨o',e',_,n',d'⟩,_⟩:=I.tuple h';rw[e]at e';cases e'
 rw[d]at d'
 injection d' with d1 _
 have:its=its':=by simpa using congrArg Array.toList d1
 subst this;exact r.inj r'
end
noncomputable abbrev Cx.wish(X:Cx)(E:K4):Cx:={X with xe:=E}
noncomputable abbrev Cx.nox(X:Cx):Cx:=X.wish λ_ _=>False
theorem Cx.Ok.wish{X:Cx}(ok:X.Ok)(E:K4):(X.wish E).Ok:=
 ⟨ok.mod,ok.kind,ok.glob,ok.blt,ok.above,ok.inj,ok.has,ok.cab,ok.hd,ok.frames,ok.stk,ok.exf,ok.bs,ok.bsz,ok.noex,ok.exfs,ok.funs,ok.frf⟩
theorem Cx.Ok.unwish{X:Cx}{E:K4}(ok:(X.wish E).Ok):X.Ok:=
 ⟨ok.mod,ok.kind,ok.glob,ok.blt,ok.above,ok.inj,ok.has,ok.cab,ok.hd,ok.frames,ok.stk,ok.exf,ok.bs,ok.bsz,ok.noex,ok.exfs,ok.funs,ok.frf⟩
section
variable {X:Cx}{pins:K6}{σ:St}{H:Hp}{s:K8}{E:K4}
theorem Inv.wish(I:Inv X pins σ H s)(E:K4):Inv (X.wish E) pins σ H s:=⟨I.ok.wish E,I.os,I.bare,I.base,I.loc,I.cell,I.free,I.freeC,I.pin,I.hok,I.len⟩
theorem Inv.unwish(I:Inv (X.wish E) pins σ H s):Inv X pins σ H s:=⟨I.ok.unwish,I.os,I.bare,I.base,I.loc,I.cell,I.free,I.freeC,I.pin,I.hok,I.len⟩
theorem SP.unwish{D:iK}{f:Flow}{s':K8}(h:SP (X.wish E) pins D f s'):SP X pins D f s':=by
 cases f with
 |next=>obtain⟨σ',H',I,q⟩:=h;exact⟨σ',H',I.unwish,q⟩
 |brk=>obtain⟨σ',H',I,q⟩:=h;exact⟨σ',H',I.unwish,q⟩
 |cont=>obtain⟨σ',H',I,q⟩:=h;exact⟨σ',H',I.unwish,q⟩
 |ret u=>obtain⟨v,σ',H',I,r,q⟩:=h;exact⟨v,σ',H',I.unwish,r,q⟩
theorem wx.nox{st:List Stmt}{t:TS}(h:wx X.nox st t):wx X st t:=λpins s σ H D I hw=>
 wpAny_mono (h pins s σ H D (I.wish _) hw) (λ_ _ q=>q.unwish) λ_ _ z=>False.elim z
end
section
variable {X:Cx}{st:Stmt}{cB:List Stmt}{t u:TS}{e:Expr}{te:TE}{pos:Pos}
noncomputable def CB:TS:=λD σ H=>D.nx σ H
noncomputable def Aa(t u:TS):TS:=λD σ H=>t {D with nx:=u D} σ H
theorem aM:wx X [] CB:=λ_ _ σ H _ I h=>wpAny_execs_nil ⟨σ,H,I,h⟩
theorem af(h1:PS X st t)(h2:wx X cB u):wx X (st::cB) (Aa t u):=by
 intro pins s σ H D I h;refine wpAny_execs_cons (bZ (h1 pins s σ H {D with nx:=u D} I h) λf s1 q=>?_);cases f with
 |next=>
  obtain⟨σ',H',I',q⟩:=q;exact h2 pins s1 σ' H' D I' q
 |ret v=>exact q
 |brk=>exact q
 |cont=>exact q
theorem ah(h1:PS X st t):wx X [st] t:=by
 intro pins s σ H D I h;refine wpAny_execs_cons (bZ (h1 pins s σ H D I h) λf s1 q=>?_);cases f with
 |next=>exact wpAny_execs_nil q
 |ret v=>exact q
 |brk=>exact q
 |cont=>exact q
noncomputable def wA:TS:=λD σ H=>D.bk σ H
theorem Bv:PS X (.Break pos) wA:=λ_ _ σ H _ I h=>wpAny_Break ⟨σ,H,I,h⟩
theorem Inv.quiet{pins:K6}{σ:St}{H:Hp}{s:K8}(I:Inv X pins σ H s):interactive X.env=false:=by simp[interactive,I.ok.kind]
noncomputable def DB(te:TE):TS:=λD σ H=>te σ H λ_ H1=>D.nx σ H1
theorem bv(he:PE X e te)(hs:autoParam (swapsWith e none pos.line X.env=pure false) zz0._auto_1):PS X (.Expr e pos) (DB te):=by
 intro pins s σ H D I h;exact wpAny_Expr_any (bZ (he pins s σ H _ I h) λv s1 ⟨x,H1,I1,r1,q1⟩=>⟨σ,H1,I1,q1⟩) I.quiet hs
noncomputable def Fd(te:TE):TS:=λD σ H=>te σ H D.rt
theorem aE(he:PE X e te):PS X (.Return (some e) pos) (Fd te):=by
 intro pins s σ H D I h;exact wpAny_Return_some (bZ (he pins s σ H _ I h) λv s1 ⟨x,H1,I1,r1,q1⟩=>⟨x,σ,H1,I1,r1,q1⟩)
noncomputable def Cj:TS:=λD _ H=>D.rt .non H
theorem uT:PS X (.Return none pos) Cj:=λ_ _ σ H _ I h=>wpAny_Return_none ⟨.non,σ,H,I,rfl,h⟩
noncomputable def B3(c:TT)(t u:TS):TS:=λD σ H=>c σ H λb H1=>if b=true then t D σ H1 else u D σ H1
theorem bE{c:Expr}{a b:List Stmt}{tc:TT}(hc:PT X c tc)(ha:wx X a t)(hb:wx X b u):PS X (.If c a b pos) (B3 tc t u):=by
 intro pins s σ H D I h;refine wpAny_If (bZ (hc pins s σ H _ I h) λd s1 ⟨H1,I1,q1⟩=>?_);cases d with
 |true=>exact ha pins s1 σ H1 D I1 q1
 |false=>exact hb pins s1 σ H1 D I1 q1
end
noncomputable abbrev TG:=V->St->Hp->(St->Hp->Prop)->Prop
noncomputable abbrev ES:=List V->St->Hp->(St->Hp->Prop)->Prop
noncomputable def PG(X:Cx)(target:Expr)(t:TG):Prop:=
 ∀(pins:K6) (s:K8) (σ:St) (H:Hp) (v:V) (u:Value) (Q:St->Hp->Prop),Inv X pins σ H s->bq v u->t v σ H Q ->
  wpAny (model X.prog X.w) X.A (assign target X.env u) (λ_ s'=>∃σ' H',Inv X pins σ' H' s'/\Q σ' H') X.xe s
noncomputable def Gu(X:Cx)(ts:Li)(t:ES):Prop:=
 ∀(pins:K6) (s:K8) (σ:St) (H:Hp) (vs:List V) (us:K9) (Q:St->Hp->Prop),Inv X pins σ H s->bg vs us->t vs σ H Q ->
  wpAny (model X.prog X.w) X.A (assignInOrder ((assignEach ts X.env).map (·.2)) us) (λ_ s'=>∃σ' H',Inv X pins σ' H' s'/\Q σ' H') X.xe s
section
variable {X:Cx}{pos:Pos}
noncomputable def ld(i:Nat):TG:=λv σ H Q=>Q (σ.set i (some v)) H
theorem ay{i:Nat}{x:Str}(hN:X.N.Nodup)(hi:X.N[i]?=some x)(hx:Loc X.env.scope x)(hf:autoParam (X.fn x=true\/X.env.scope.names.lookup x=some .local) zz3._auto_1):PG X (.Name x pos) (ld i):=by
 intro pins s σ H v u Q I r h;exact wpAny_assign_Name (wk I hN hi hx r (λs' I'=>⟨_,H,I',h⟩) hf)
noncomputable def D9:ES:=λvs σ H Q=>vs=[]/\Q σ H
noncomputable def yu(t:TG)(u:ES):ES:=λvs σ H Q=>∃v r,vs=v::r/\t v σ H λσ' H'=>u r σ' H' Q
theorem cW:Gu X [] D9:=by
 intro pins s σ H vs us Q I r h;obtain⟨e,h⟩:=h;subst e;cases r;exact assignInOrder_nil ⟨σ,H,I,h⟩
theorem aK{e:Expr}{es:Li}{t:TG}{u:ES}(h1:PG X e t)(h2:Gu X es u)
  (hs:autoParam ((assignEach (e::es) X.env).map (·.2)=assign e X.env::(assignEach es X.env).map (·.2)) zz0._auto_1):Gu X (e::es) (yu t u):=by
 intro pins s σ H vs us Q I r h;obtain⟨v,vr,e1,h⟩:=h;subst e1;cases r with
 |cons r rr=>
  rw[hs];refine assignInOrder_cons (bZ (h1 pins s σ H _ _ _ I r h) λ_ s1 ⟨σ1,H1,I1,q1⟩=>?_);exact h2 pins s1 σ1 H1 _ _ Q I1 rr q1
noncomputable def BZ(K:K5)(n:Nat)(t:ES):TG:=λv σ H Q=>∃a xs,v=.ref a/\bh K H a xs/\xs.length=n/\t xs σ H Q
theorem fG{es:Li}{k:Nat}{t:ES}{n:Nat}(hc:X.calm=true)(h:Gu X es t)
  (hn:autoParam ((assignEach es X.env).length=n) zz0._auto_1) (hst:autoParam ((assignEach es X.env).findIdx? (·.1)=none) zz0._auto_1):PG X (.Tuple es k pos) (BZ X.K n t):=by
 intro pins s σ H v u Q I r hw;obtain⟨a,xs,e1,hq,hl,hw⟩:=hw;subst e1;cases r;obtain⟨its,rv,ht,hz⟩:=I.tuple hq;refine assign_Tuple_tuple (I.ok.hd hc) ht (by simp[hn,<- hl,rv.length]) hst λh' hx=>?_;have I1:Inv X pins σ H {s with heap:=h' }:=I.kept (t':=s.toks) λb o e=>hx b o (Kr (Ky e)) e;exact h pins _ σ H xs _ Q I1 (by simpa using rv) hw
noncomputable def AJ(te:TE)(g:TG):TS:=λD σ H=>te σ H λx H1=>g x σ H1 D.nx
theorem BY{tg e:Expr}{te:TE}{g:TG}(he:PE X e te)(hg:PG X tg g)(hs:autoParam (swapsWithSole [tg] e pos.line X.env=pure false) zz0._auto_1)(hw:autoParam (swappedStores [tg] e X.env=pure none) zz0._auto_1)
  (h1:autoParam ((assignEach [tg] X.env).map (·.2)=[assign tg X.env]) zz0._auto_1):PS X (.Assign [tg] e pos) (AJ te g):=by
 intro pins s σ H D I h;refine wpAny_Assign_stores (bZ (he pins s σ H _ I h) λv s1 ⟨x,H1,I1,r1,q1⟩=>?_) hs hw;rw[h1];exact bZ (hg pins s1 σ H1 x v _ I1 r1 q1) λ_ s2 q=>q
theorem aB{i:Nat}{x:Str}{e:Expr}{te:TE}{pos':Pos}(hN:X.N.Nodup)(hi:X.N[i]?=some x)(hx:Loc X.env.scope x)(he:PE X e te)(hs:autoParam (swapsWith e (some (.Name x pos')) pos.line X.env=pure false) zz0._auto_1)(hf:autoParam (X.fn x=true\/X.env.scope.names.lookup x=some .local) zz3._auto_1) :
  PS X (.Assign [.Name x pos'] e pos) (AJ te (ld i)):=by
 intro pins s σ H D I h;refine wpAny_Assign_Name (bZ (he pins s σ H _ I h) λv s1 ⟨y,H1,I1,r1,q1⟩=>?_) hs;exact wk I1 hN hi hx r1 (λs2 I2=>⟨_,H1,I2,q1⟩) hf
end
section
variable {X:Cx}{pos:Pos}
end
structure It where
 go:Nat->Hp->Prop
 yld:Nat->Hp->V->Hp->Prop
 stop:Nat->Hp->Prop
noncomputable def oO(X:Cx)(pins:K6)(H:Hp)(b:Addr):Prop:=
 H b=none/\b≠X.env.locals/\b∉X.fs/\(b∈X.ex\/X.s₀.heap.objs.size<=b)/\(∀x c,X.env.cells.lookup x=some c->c≠b)/\∀p∈X.pn++pins,p.1≠b
theorem Inv.fpOk{X:Cx}{pins:K6}{σ:St}{H H':Hp}{s:K8}{b:Addr}(I:Inv X pins σ H s)(hb:s.heap.objs.size<=b)(hn:H' b=none):oO X pins H' b:=by
 refine⟨hn,Nat.ne_of_gt (Kq I.lt hb),I.nofs hb,.inr (KD I.sz hb),λx c e z=>?_,λp hp z=>?_⟩
 ·obtain⟨v,q⟩:=I.cell x c e
  exact absurd (Kq q.lt (by rw[z];exact hb)) (KF _)
 ·exact absurd (Kq (Ky (I.pin p hp).1) (by rw[z];exact hb)) (KF _)
structure pk(P:Ld)(w:Lg)(K:K5)(tg:Expr)(J:It)(fp:La)(it:Addr)(tn:Nat->Heap->Prop):Prop where
 mem:it∈fp
 obj:∀i h,tn i h->∀b∈fp,∃o,h.get? b=some o/\∀v,o.data≠.cell v
 keep:∀i h h',tn i h->(∀b∈fp,∀o,h.get? b=some o->h'.get? b=some o)->tn i h'
 item:∀(X:Cx),X.prog=P->X.w=w->X.K=K->X.calm=true->∀(i:Nat) (pins:K6) (s:K8) (σ:St) (H:Hp) (E:K4),Inv X pins σ H s->(∀b∈fp,oO X pins H b)->tn i s.heap->J.go i H ->
  wpAny (model P w) X.A (pyNext (.ref it)) (λr s1=>∃u,r=some u /\
   wpAny (model P w) X.A (letOwnedTupleGo tg (.ref it) u) (λ_ s2=>∃x H',Inv X pins σ H' s2/\bq x u/\J.yld i H x H'/\tn (i+1) s2.heap/\∀b∈fp,H' b=none) E s1) E s
 done:∀(X:Cx),X.prog=P->X.w=w->X.K=K->X.calm=true->∀(i:Nat) (pins:K6) (s:K8) (σ:St) (H:Hp) (E:K4),Inv X pins σ H s->(∀b∈fp,oO X pins H b)->tn i s.heap->J.stop i H ->
  wpAny (model P w) X.A (pyNext (.ref it)) (λr s1=>r=none/\Inv X pins σ H s1) E s
 self:∀(A:Lf) (i:Nat) (s:K8) (Q:K4) (E:K4),tn i s.heap->Q (.ref it) s->wpAny (model P w) A (pyIter (.ref it)) Q E s
noncomputable abbrev TI:=St->Hp->(It->Hp->Prop)->Prop
noncomputable def Hr(X:Cx)(pins:K6)(σ:St)(tg:Expr)(R:It->Hp->Prop)(itv:Value)(s2:K8):Prop:=
 ∃(it:Addr) (fp:La) (tn:Nat->Heap->Prop) (J:It) (H':Hp),itv=.ref it/\Inv X pins σ H' s2/\pk X.prog X.w X.K tg J fp it tn/\tn 0 s2.heap/\(∀b∈fp,oO X pins H' b)/\R J H'
noncomputable def PI(X:Cx)(tg iter:Expr)(wi:TI):Prop:=
 ∀(pins:K6) (s:K8) (σ:St) (H:Hp) (R:It->Hp->Prop),Inv X pins σ H s->wi σ H R ->
  wpAny (model X.prog X.w) X.A (eval iter X.env) (λv s1=>wpAny (model X.prog X.w) X.A (pyIter v) (Hr X pins σ tg R) X.xe s1) X.xe s
theorem vE{M:Model}{A:Lf}{E:K4}{s:K8}{tg:Expr}{it:Addr}{u:Value}{o:Obj}{n:String}{vs:Array Value}{Q:Unit->Shared->Prop}(ho:s.heap.get? it=some o)(hc:o.cls=.type n)(hd:o.data=.fields vs)
  (hn:["enumerate","zip","dict_itemiterator","dict_reverseitemiterator","odict_iterator","itertools.zip_longest","itertools.pairwise"].contains n=false) (hQ:Q () s):wpAny M A (letOwnedTupleGo tg (.ref it) u) Q E s:=by
 unfold letOwnedTupleGo;cases tg<;>first
  |exact wpAny_pure hQ
  | (cases u<;>first
    |exact wpAny_pure hQ
    | (refine wpAny_bind (wpAny_load ho ?_)
       rw[hc,hd];show wpAny M A (if(["enumerate","zip","dict_itemiterator","dict_reverseitemiterator","odict_iterator","itertools.zip_longest","itertools.pairwise"].contains n&&vs[0]?==some (rawInt _))=true then _ else _) Q E s;rw[if_neg (by intro h;rw[hn,Bool.false_and]at h;cases h)];exact wpAny_pure hQ))
noncomputable def DF(K:K5)(a:Addr):It:=
 ⟨λi H=>∃xs x,aS K H a xs/\xs[i]?=some x,λi H x H'=>H'=H/\∀xs,aS K H a xs->xs[i]?=some x,λi H=>∃xs,aS K H a xs/\xs.length<=i⟩
noncomputable def EI(K:K5)(a:Addr):It:=
 ⟨λi H=>∃xs x,bh K H a xs/\xs[i]?=some x,λi H x H'=>H'=H/\∀xs,bh K H a xs->xs[i]?=some x,λi H=>∃xs,bh K H a xs/\xs.length<=i⟩
noncomputable def Bm(lo:Int)(n:Nat):It:=⟨λi _=>i<n,λi H x H'=>H'=H/\x=.int (lo+i),λi _=>n<=i⟩
theorem A7{P:Ld}{w:Lg}{K:K5}{tg:Expr}(a it:Addr):pk P w K tg (DF K a) [it] it (λi h=>h.IsListIter it a i) where
 mem:=by simp
 obj:=λi h st b hb=>by
  have e:b=it:=by simpa using hb
  subst e;obtain⟨o,e,c,d⟩:=st;exact⟨o,e,λv z=>by rw[d]at z;cases z⟩
 keep:=λi h h' st k=>st.at λo e=>k it (by simp) o e
 item:=by
  intro X hP hw hK hc i pins s σ H E I hf st hg;subst hP hw hK;obtain⟨xs,x,hq,hx⟩:=hg;obtain⟨its,rv,p,hz⟩:=I.list hq;obtain⟨u,hu,ru⟩:=rv.get hx;obtain⟨f0,f1,f2,f3,f4,f5⟩:=hf it (by simp);refine wpAny_pyNext_list_item st p.isList (x:=u) (by simpa using hu) λh' st' sb=>?_;have I1:Inv X pins σ H {s with heap:=h' }:=I.turned (t':=s.toks) (λb o hb e=>(sb.2 b hb).trans e) f0 f1 f3 f4 f5;obtain⟨o,e,c,d⟩:=id st';exact⟨u,rfl,vE (s:={s with heap:=h' }) e c d nofun ⟨x,H,I1,ru,⟨rfl,λys hy=>by rw[I.list_inj hy hq];exact hx⟩,st',λb hb=>(hf b hb).1⟩⟩
 done:=by
  intro X hP hw hK hc i pins s σ H E I hf st hg;subst hP hw hK;obtain⟨xs,hq,hx⟩:=hg;obtain⟨its,rv,p,hz⟩:=I.list hq;obtain⟨f0,f1,f2,f3,f4,f5⟩:=hf it (by simp);have hl:=rv.length;exact wpAny_pyNext_list_end (I.ok.hd hc) st p.isList (by simp;omega) λh' eb=>⟨rfl,I.turned (t':=s.toks) (λb o hb e=>eb b o hb e) f0 f1 f3 f4 f5⟩
 self:=λ_ _ _ _ _ st h=>wpAny_pyIter_listiter st h
theorem xV{P:Ld}{w:Lg}{K:K5}{tg:Expr}(a it:Addr):pk P w K tg (EI K a) [it] it (λi h=>h.IsTupleIter it a i) where
 mem:=by simp
 obj:=λi h st b hb=>by
  have e:b=it:=by simpa using hb
  subst e;obtain⟨o,e,c,d⟩:=st;exact⟨o,e,λv z=>by rw[d]at z;cases z⟩
 keep:=λi h h' st k=>st.at λo e=>k it (by simp) o e
 item:=by
  intro X hP hw hK hc i pins s σ H E I hf st hg;subst hP hw hK;obtain⟨xs,x,hq,hx⟩:=hg;obtain⟨its,rv,p,hz⟩:=I.tuple hq;obtain⟨u,hu,ru⟩:=rv.get hx;obtain⟨f0,f1,f2,f3,f4,f5⟩:=hf it (by simp);refine wpAny_pyNext_tuple_item st (show s.heap.IsTuple a its.toArray from p) (x:=u) (by simpa using hu) λh' st' sb=>?_;have I1:Inv X pins σ H {s with heap:=h' }:=I.turned (t':=s.toks) (λb o hb e=>(sb.2 b hb).trans e) f0 f1 f3 f4 f5;obtain⟨o,e,c,d⟩:=id st';exact⟨u,rfl,vE (s:={s with heap:=h' }) e c d nofun ⟨x,H,I1,ru,⟨rfl,λys hy=>by rw[I.tuple_inj hy hq];exact hx⟩,st',λb hb=>(hf b hb).1⟩⟩
 done:=by
  intro X hP hw hK hc i pins s σ H E I hf st hg;subst hP hw hK;obtain⟨xs,hq,hx⟩:=hg;obtain⟨its,rv,p,hz⟩:=I.tuple hq;obtain⟨f0,f1,f2,f3,f4,f5⟩:=hf it (by simp);have hl:=rv.length;exact wpAny_pyNext_tuple_end (I.ok.hd hc) st (show s.heap.IsTuple a its.toArray from p) (by simp;omega) λh' eb=>⟨rfl,I.turned (t':=s.toks) (λb o hb e=>eb b o hb e) f0 f1 f3 f4 f5⟩
 self:=λ_ _ _ _ _ st h=>wpAny_pyIter_tupleiter st h
theorem ye{P:Ld}{w:Lg}{K:K5}{tg:Expr}(it:Addr)(lo:Int)(n:Nat):pk P w K tg (Bm lo n) [it] it (λi h=>IsRangeIter h it (lo+(i:Nat)*1) ((n:Int)-(i:Nat)) 1) where
 mem:=by simp
 obj:=λi h st b hb=>by
  have e:b=it:=by simpa using hb
  subst e;exact⟨_,st,λv z=>by
   have z':Data.fields _=Data.cell v:=z;cases z'⟩
 keep:=λi h h' st k=>k it (by simp) _ st
 item:=by
  intro X hP hw hK hc i pins s σ H E I hf st hg;subst hP hw hK;obtain⟨f0,f1,f2,f3,f4,f5⟩:=hf it (by simp);have W:=Walks.range (prog:=X.prog) (w:=X.w) (I.ok.hd hc) it lo 1 n;refine W.item i s _ _ hg st λv h' tk hv st' kk=>?_;obtain⟨t,rfl⟩:=hv;have I1:Inv X pins σ H {s with heap:=h',toks:=tk}:=I.turned (λb o hb e=>kk b o (by simpa using hb) e) f0 f1 f3 f4 f5;refine⟨_,rfl,vE (s:={s with heap:=h',toks:=tk}) (n:="range_iterator") st' rfl rfl nofun ⟨.int (lo+i),H,I1,⟨t,?_⟩,⟨rfl,rfl⟩,st',λb hb=>(hf b hb).1⟩⟩;rw[Int.mul_one]
 done:=by
  intro X hP hw hK hc i pins s σ H E I hf st hg;subst hP hw hK;obtain⟨f0,f1,f2,f3,f4,f5⟩:=hf it (by simp);exact wpAny_pyNext_range_end (I.ok.hd hc) st (by have:n<=i:=hg;omega) λh' eb=>⟨rfl,I.turned (t':=s.toks) (λb o hb e=>eb b o hb e) f0 f1 f3 f4 f5⟩
 self:=λ_ _ _ _ _ st h=>wpAny_pyIter_rangeiter st h
section
variable {X:Cx}{tg:Expr}
noncomputable def C6(K:K5)(tl:TE):TI:=λσ H R=>tl σ H λx H1=>∃a,x=.ref a/\(∃xs,aS K H1 a xs)/\R (DF K a) H1
noncomputable def FZ(K:K5)(tl:TE):TI:=λσ H R=>tl σ H λx H1=>∃a,x=.ref a/\(∃xs,bh K H1 a xs)/\R (EI K a) H1
theorem cE{l:Expr}{tl:TE}(hl:PE X l tl):PI X tg l (C6 X.K tl):=by
 intro pins s σ H R I h;refine bZ (hl pins s σ H _ I h) λv s1 ⟨x,H1,I1,r1,q1⟩=>?_;obtain⟨a,e,⟨xs,hq⟩,q⟩:=q1;subst e;cases r1;obtain⟨its,rv,p,hz⟩:=I1.list hq;refine wpAny_pyIter_list p.isList ?_;refine⟨s1.heap.objs.size,[s1.heap.objs.size],_,_,H1,rfl,I1.kept (t':=s1.toks) λb o e=>J9 _ e,A7 a _,⟨_,Kd _ rfl,rfl,rfl⟩,λb hb=>?_,q⟩;have e:b=s1.heap.objs.size:=by simpa using hb
 subst e;exact I1.fpOk (Kv _) (I1.hok.fresh (Kv _))
theorem xC{l:Expr}{tl:TE}(hl:PE X l tl):PI X tg l (FZ X.K tl):=by
 intro pins s σ H R I h;refine bZ (hl pins s σ H _ I h) λv s1 ⟨x,H1,I1,r1,q1⟩=>?_;obtain⟨a,e,⟨xs,hq⟩,q⟩:=q1;subst e;cases r1;obtain⟨its,rv,p,hz⟩:=I1.tuple hq;refine wpAny_pyIter_tuple (show s1.heap.IsTuple a its.toArray from p) ?_;refine⟨s1.heap.objs.size,[s1.heap.objs.size],_,_,H1,rfl,I1.kept (t':=s1.toks) λb o e=>J9 _ e,xV a _,⟨_,Kd _ rfl,rfl,rfl⟩,λb hb=>?_,q⟩;have e:b=s1.heap.objs.size:=by simpa using hb
 subst e;exact I1.fpOk (Kv _) (I1.hok.fresh (Kv _))
theorem vU{pins:K6}{σ:St}{H:Hp}{s:K8}{R:It->Hp->Prop}{E:K4}{lo hi:Int}{t u v:Tok}{tk:Nat}(I:Inv X pins σ H s)(h1:-(2 ^ 62)<=lo)(h2:lo<2 ^ 62)(h3:-(2 ^ 62)<=hi)(h4:hi<2 ^ 62)
  (q:R (Bm lo (hi-lo).toNat) H):wpAny (model X.prog X.w) X.A (pyIter (.ref s.heap.objs.size)) (Hr X pins σ tg R) E {s with heap:=s.heap.push {cls:=.type "range",data:=.fields #[.int lo t,.int hi u,.int 1 v]},toks:=tk}:=by
 refine wpAny_pyIter_range (IsRange.new ..) (small_one h1 h2 h3 h4) ?_;have I1:Inv X pins σ H {s with heap:=s.heap.push {cls:=.type "range",data:=.fields #[.int lo t,.int hi u,.int 1 v]},toks:=tk}:=I.kept λb o e=>J9 _ e;refine⟨(s.heap.push {cls:=.type "range",data:=.fields #[.int lo t,.int hi u,.int 1 v]}).objs.size,[(s.heap.push {cls:=.type "range",data:=.fields #[.int lo t,.int hi u,.int 1 v]}).objs.size],_,_,H,rfl,
  I1.kept (t':=tk) λb o e=>J9 _ e,ye _ lo (hi-lo).toNat,?_,λb hb=>?_,q⟩
 ·have e1:lo+((0:Nat):Int)*1=lo:=by simp
  have e2:(((hi-lo).toNat:Nat):Int)-((0:Nat):Int)=Builtin.Range.rangeSize lo hi 1:=by rw[rangeSize_one];split<;>omega
  show IsRangeIter _ _ (lo+((0:Nat):Int)*1) ((((hi-lo).toNat:Nat):Int)-((0:Nat):Int)) 1;rw[e1,e2];exact Kd _ rfl
 ·have e:b=(s.heap.push {cls:=.type "range",data:=.fields #[.int lo t,.int hi u,.int 1 v]}).objs.size:=by simpa using hb
  subst e;exact I1.fpOk (Kv _) (I1.hok.fresh (Kv _))
noncomputable def B8(ta:TA):TI:=λσ H R=>ta σ H λvs H1=>∃j:Int,vs=[.int j]/\-(2 ^ 62)<=j/\j<2 ^ 62/\R (Bm 0 j.toNat) H1
noncomputable def BG(ta:TA):TI:=λσ H R=>ta σ H λvs H1=>∃i j:Int,vs=[.int i,.int j]/\(-(2 ^ 62)<=i/\i<2 ^ 62/\-(2 ^ 62)<=j/\j<2 ^ 62)/\R (Bm i (j-i).toNat) H1
theorem dR{a:Expr}{ta:TA}{p pos:Pos}(hg:Gl X "range")(hm:X.mg "range"=none)(ha:PA X [a] ta)(hs:autoParam (starEach [a] X.env=[(false,eval a X.env)]) zz0._auto_1):PI X tg (.Call (.Name "range" p) [a] [] pos) (B8 ta):=by
 intro pins s σ H R I h;refine Call_ (e_ I hg hm boot_range (PyProof.Rows.callWith_type1 (bZ (ha pos pins s σ H _ I h) λus s1 ⟨vs,H1,I1,r1,q1⟩=>?_) hs rfl));obtain⟨j,e,q1,q2,q⟩:=q1;subst e;cases r1 with
 |cons r rr=>
  cases rr;obtain⟨t,rfl⟩:=r;exact call_range_1 (vU I1 ⋯ ⋯ q1 q2 (by simpa using q))
theorem ib{a b:Expr}{ta:TA}{p pos:Pos}(hg:Gl X "range")(hm:X.mg "range"=none)(ha:PA X [a,b] ta)(hs:autoParam (starEach [a,b] X.env=[(false,eval a X.env),(false,eval b X.env)]) zz0._auto_1)(hs2:autoParam (starEach [b] X.env=[(false,eval b X.env)]) zz0._auto_1) :
  PI X tg (.Call (.Name "range" p) [a,b] [] pos) (BG ta):=by
 intro pins s σ H R I h;refine Call_ (e_ I hg hm boot_range (PyProof.Rows.callWith_type1 (bZ (ha pos pins s σ H _ I h) λus s1 ⟨vs,H1,I1,r1,q1⟩=>?_) (by rw[hs,hs2]) (by rw[hs2];rfl)));obtain⟨i,j,e,⟨q1,q2,q3,q4⟩,q⟩:=q1;subst e;cases r1 with
 |cons r rr=>
  cases rr with
  |cons r' rr=>
   cases rr;obtain⟨t,rfl⟩:=r;obtain⟨t',rfl⟩:=r';exact call_range_2 (vU I1 q1 q2 q3 q4 q)
noncomputable def G5(wi:TI)(g:TG)(tb:TS):TS:=λD σ H=>wi σ H λJ H1=>∃W:Nat->Nat->St->Hp->Prop,(∃m,W 0 m σ H1)/\∀i m σ H,W i m σ H ->
 (J.stop i H/\D.nx σ H)\/(J.go i H/\∃N:St->Hp->Prop,(∀σ' H',N σ' H'->∃m',m'<m/\W (i+1) m' σ' H')/\∀x H',J.yld i H x H'->g x σ H' λσ2 H2=>tb {D with nx:=N,ct:=N,bk:=D.nx} σ2 H2)
noncomputable def pT(fp:La)(h:Heap):List (Addr×Obj):=fp.filterMap λb=>(h.get? b).map λo=>(b,o)
theorem iC{fp:La}{h:Heap}{b:Addr}{o:Obj}(hb:b∈fp)(e:h.get? b=some o):(b,o)∈pT fp h:=List.mem_filterMap.mpr ⟨b,hb,by rw[e];rfl⟩
theorem AG{fp:La}{h:Heap}{p:Addr×Obj}(hp:p∈pT fp h):p.1∈fp/\h.get? p.1=some p.2:=by
 obtain⟨b,hb,e⟩:=List.mem_filterMap.mp hp;cases q:h.get? b with
 |none=>rw[q]at e;cases e
 |some o=>
  rw[q]at e;have e':(b,o)=p:=Option.some.inj e;subst e';exact⟨hb,q⟩
theorem Inv.pinned{pins:K6}{σ:St}{H:Hp}{s:K8}{fp:La}(I:Inv X pins σ H s)(hf:∀b∈fp,oO X pins H b)(ho:∀b∈fp,∃o,s.heap.get? b=some o/\∀v,o.data≠.cell v):Inv X (pins++pT fp s.heap) σ H s:=
 I.pins_of λp hp=>(Kk.mp hp).elim (λz=>I.pin p (List.mem_append_right _ z)) λz=>by
  obtain⟨hb,e⟩:=AG z;obtain⟨f0,f1,f2,_⟩:=hf p.1 hb;obtain⟨o,e',d⟩:=ho p.1 hb;rw[e]at e';cases e'
  exact⟨e,f0,f1,f2,d⟩
theorem Inv.unpinned{pins pl:K6}{σ:St}{H:Hp}{s:K8}(I:Inv X (pins++pl) σ H s):Inv X pins σ H s:=I.pins_of λp hp=>I.pin p (List.mem_append_right _ (List.mem_append_left _ hp))
theorem FM{iter:Expr}{body:List Stmt}{wi:TI}{g:TG}{tb:TS}{pos:Pos}(hp:PassesOwn (model X.prog X.w) X.A X.env X.xe)(hc:X.calm=true)(hi:PI X tg iter wi)(hg:PG X tg g)(hb:wx X body tb)
  (hs:autoParam (∀x,foldedSetIterable iter X.env x=pure x) zz4._auto_1):PS X (.For tg iter body [] pos) (G5 wi g tb):=by
 intro pins s σ H D I h;refine wpAny_For (bZ (hi pins s σ H _ I h) λv s1 h1=>bZ h1 λitv s2 h2=>?_) hs;obtain⟨it,fp,tn,J,H2,e,I2,T,st2,f2,W,⟨m0,w0⟩,turn⟩:=h2;subst e
 -- what stays true of the iterator's objects through the loop
 have stat:∀{H':Hp},(∀b∈fp,H' b=none)->∀b∈fp,oO X pins H' b:=λhn b hb=>⟨hn b hb,(f2 b hb).2⟩;refine codeAny_forLoop_any (λn s'=>∃i σ' H',Inv X pins σ' H' s'/\tn i s'.heap/\(∀b∈fp,H' b=none)/\W i n σ' H') ?_ m0 ⟨0,σ,H2,I2,st2,λb hb=>(f2 b hb).1,w0⟩;rintro n s3 ⟨i,σ3,H3,I3,st3,fr3,w3⟩;rcases turn i n σ3 H3 w3 with⟨stop,qn⟩ | ⟨go,N,hN,step⟩
 ·refine wpAny_passesOwn hp (bZ (T.done X rfl rfl rfl hc i pins s3 σ3 H3 X.xe I3 (stat fr3) st3 stop) λr s4 ⟨hr,I4⟩=>?_)
  subst hr;exact wpAny_execs_nil ⟨σ3,H3,I4,qn⟩
 ·refine wpAny_passesOwn hp (bZ (T.item X rfl rfl rfl hc i pins s3 σ3 H3 X.xe I3 (stat fr3) st3 go) λr s4 ⟨u,hr,h4⟩=>?_)
  subst hr;refine wpAny_passesOwn hp (bZ h4 λ_ s5 ⟨x,H5,I5,r5,y5,st5,fr5⟩=>?_);have I5':=I5.pinned (stat fr5) (T.obj _ _ st5);refine wpAny_passesOwn hp (bZ (hg _ s5 σ3 H5 x u _ I5' r5 (step x H5 y5)) λ_ s6 ⟨σ6,H6,I6,q6⟩=>?_);refine wpAny_passesOwn hp (bZ (hb _ s6 σ6 H6 _ I6 q6) λf s7 q7=>?_);have again:∀{σ7:St} {H7:Hp},Inv X (pins++pT fp s5.heap) σ7 H7 s7->N σ7 H7->∃m,m<n/\∃i σ' H',Inv X pins σ' H' s7/\tn i s7.heap/\(∀b∈fp,H' b=none)/\W i m σ' H':=fun{σ7 H7} I7 n7=>by
   obtain⟨m',hm,w7⟩:=hN σ7 H7 n7;refine⟨m',hm,i+1,σ7,H7,I7.unpinned,T.keep _ _ _ st5 λb hb o e=>(I7.pin (b,o) (List.mem_append_right _ (List.mem_append_right _ (iC hb e)))).1,λb hb=>?_,w7⟩;obtain⟨o,e,d⟩:=T.obj _ _ st5 b hb;exact(I7.pin (b,o) (List.mem_append_right _ (List.mem_append_right _ (iC hb e)))).2.1
  cases f with
  |next=>obtain⟨σ7,H7,I7,n7⟩:=q7;exact again I7 n7
  |cont=>obtain⟨σ7,H7,I7,n7⟩:=q7;exact again I7 n7
  |brk=>obtain⟨σ7,H7,I7,q7⟩:=q7;exact⟨σ7,H7,I7.unpinned,q7⟩
  |ret v=>obtain⟨x7,σ7,H7,I7,r7,q7⟩:=q7;exact⟨x7,σ7,H7,I7.unpinned,r7,q7⟩
end
theorem Dm{K:K5}{a:Addr}{xs:List V}{g:TG}{tb:TS}{D:iK}{σ:St}{H:Hp}(Pv:Nat->St->Hp->Prop)(h0:Pv 0 σ H)(hl:∀i σ H,i<=xs.length->Pv i σ H->aS K H a xs)
  (hs:∀i x σ H,xs[i]?=some x->Pv i σ H->g x σ H λσ2 H2=>tb {D with nx:=Pv (i+1),ct:=Pv (i+1),bk:=D.nx} σ2 H2) (hd:∀σ H,Pv xs.length σ H->D.nx σ H) :
  ∃W:Nat->Nat->St->Hp->Prop,(∃m,W 0 m σ H)/\∀i m σ H,W i m σ H ->
   ((DF K a).stop i H/\D.nx σ H)\/((DF K a).go i H/\∃N:St->Hp->Prop,(∀σ' H',N σ' H'->∃m',m'<m/\W (i+1) m' σ' H')/\∀x H',(DF K a).yld i H x H'->g x σ H' λσ2 H2=>tb {D with nx:=N,ct:=N,bk:=D.nx} σ2 H2):=by
 refine⟨λi m σ H=>m=xs.length-i/\i<=xs.length/\Pv i σ H,⟨xs.length,by simp,Kw _,h0⟩,?_⟩;rintro i m σ H ⟨rfl,hi,p⟩;have q:=hl i σ H hi p
 by_cases hlt:i<xs.length
 ·refine .inr ⟨⟨xs,xs[i],q,by simp[hlt]⟩,Pv (i+1),λσ' H' p'=>⟨xs.length-(i+1),⋯,rfl,hlt,p'⟩,λx H' y=>?_⟩
  obtain⟨e,y⟩:=y;subst e;exact hs i x σ _ (y xs q) p
 ·have e:i=xs.length:=by omega
  subst e;exact .inl ⟨⟨xs,q,Kv _⟩,hd σ H p⟩
theorem DU{K:K5}{a:Addr}{xs:List V}{g:TG}{tb:TS}{D:iK}{σ:St}{H:Hp}(Pv:Nat->St->Hp->Prop)(h0:Pv 0 σ H)(hl:∀i σ H,i<=xs.length->Pv i σ H->bh K H a xs)
  (hs:∀i x σ H,xs[i]?=some x->Pv i σ H->g x σ H λσ2 H2=>tb {D with nx:=Pv (i+1),ct:=Pv (i+1),bk:=D.nx} σ2 H2) (hd:∀σ H,Pv xs.length σ H->D.nx σ H) :
  ∃W:Nat->Nat->St->Hp->Prop,(∃m,W 0 m σ H)/\∀i m σ H,W i m σ H ->
   ((EI K a).stop i H/\D.nx σ H)\/((EI K a).go i H/\∃N:St->Hp->Prop,(∀σ' H',N σ' H'->∃m',m'<m/\W (i+1) m' σ' H')/\∀x H',(EI K a).yld i H x H'->g x σ H' λσ2 H2=>tb {D with nx:=N,ct:=N,bk:=D.nx} σ2 H2):=by
 refine⟨λi m σ H=>m=xs.length-i/\i<=xs.length/\Pv i σ H,⟨xs.length,by simp,Kw _,h0⟩,?_⟩;rintro i m σ H ⟨rfl,hi,p⟩;have q:=hl i σ H hi p
 by_cases hlt:i<xs.length
 ·refine .inr ⟨⟨xs,xs[i],q,by simp[hlt]⟩,Pv (i+1),λσ' H' p'=>⟨xs.length-(i+1),⋯,rfl,hlt,p'⟩,λx H' y=>?_⟩
  obtain⟨e,y⟩:=y;subst e;exact hs i x σ _ (y xs q) p
 ·have e:i=xs.length:=by omega
  subst e;exact .inl ⟨⟨xs,q,Kv _⟩,hd σ H p⟩
theorem AE{lo:Int}{n:Nat}{g:TG}{tb:TS}{D:iK}{σ:St}{H:Hp}(Pv:Nat->St->Hp->Prop)(h0:Pv 0 σ H)
  (hs:∀i σ H,i<n->Pv i σ H->g (.int (lo+i)) σ H λσ2 H2=>tb {D with nx:=Pv (i+1),ct:=Pv (i+1),bk:=D.nx} σ2 H2) (hd:∀σ H,Pv n σ H->D.nx σ H) :
  ∃W:Nat->Nat->St->Hp->Prop,(∃m,W 0 m σ H)/\∀i m σ H,W i m σ H ->
   ((Bm lo n).stop i H/\D.nx σ H)\/((Bm lo n).go i H/\∃N:St->Hp->Prop,(∀σ' H',N σ' H'->∃m',m'<m/\W (i+1) m' σ' H')/\∀x H',(Bm lo n).yld i H x H'->g x σ H' λσ2 H2=>tb {D with nx:=N,ct:=N,bk:=D.nx} σ2 H2):=by
 refine⟨λi m σ H=>m=n-i/\i<=n/\Pv i σ H,⟨n,by simp,Kw _,h0⟩,?_⟩;rintro i m σ H ⟨rfl,hi,p⟩
 by_cases hlt:i<n
 ·refine .inr ⟨hlt,Pv (i+1),λσ' H' p'=>⟨n-(i+1),⋯,rfl,hlt,p'⟩,λx H' y=>?_⟩
  obtain⟨e,y⟩:=y;subst e y;exact hs i σ _ hlt p
 ·have e:i=n:=by omega
  subst e;exact .inl ⟨Kv _,hd σ H p⟩
noncomputable abbrev R2:=V->V->Hp->VK->Prop
noncomputable def bd(X:Cx)(f:Value->Value->Sem Value)(r:R2):Prop:=
 ∀(pins:K6) (s:K8) (σ:St) (H:Hp) (x y:V) (v u:Value) (Q:VK),Inv X pins σ H s->bq x v->bq y u->r x y H Q ->
  wpAny (model X.prog X.w) X.A (f v u) (EP X pins σ Q) X.xe s
noncomputable def gI(X:Cx)(f:Value)(r:List V->Hp->VK->Prop):Prop:=
 ∀(pins:K6) (s:K8) (σ:St) (H:Hp) (xs:List V) (us:K9) (Q:VK),Inv X pins σ H s->bg xs us->r xs H Q ->
  wpAny (model X.prog X.w) X.A (call f us) (EP X pins σ Q) X.xe s
noncomputable def F6(r:R2)(ta tb:TE):TE:=λσ H Q=>ta σ H λx H1=>tb σ H1 λy H2=>r x y H2 Q
noncomputable def rI(C:Int->Int->Prop)(g:Int->Int->V):R2:=λx y H Q=>∃i j,x=.int i/\y=.int j/\C i j/\Q (g i j) H
noncomputable def AI(g:Int->Int->V):R2:=λx y H Q=>∃i j,x=.int i/\y=.int j/\Q (g i j) H
section
variable {X:Cx}{a b c:Expr}{ta tb tc:TE}{pos:Pos}
theorem Fs(ha:PE X a ta)(hb:PE X b tb){pins:K6}{s:K8}{σ:St}{H:Hp}{R:V->V->Hp->Prop}(I:Inv X pins σ H s)
  (h:ta σ H λx H1=>tb σ H1 λy H2=>R x y H2) {Q:K4} {f:Value->Value->Sem Value}
  (hf:∀v u s2 x y H2,Inv X pins σ H2 s2->bq x v->bq y u->R x y H2->wpAny (model X.prog X.w) X.A (f v u) Q X.xe s2) :
  wpAny (model X.prog X.w) X.A (eval a X.env) (λv s₁=>wpAny (model X.prog X.w) X.A (eval b X.env) (λu s₂=>wpAny (model X.prog X.w) X.A (f v u) Q X.xe s₂) X.xe s₁) X.xe s:=by
 refine bZ (ha pins s σ H _ I h) λv s1 ⟨x,H1,I1,r1,q1⟩=>?_;refine bZ (hb pins s1 σ H1 _ I1 q1) λu s2 ⟨y,H2,I2,r2,q2⟩=>?_;exact hf v u s2 x y H2 I2 r1 r2 q2
theorem aw{op:Operator}{r:R2}(ho:bd X (binaryOp op) r)(ha:PE X a ta)(hb:PE X b tb):PE X (.BinOp a op b pos) (F6 r ta tb):=by
 intro pins s σ H Q I h;exact wpAny_BinOp (Fs ha hb I h λv u s2 x y H2 I2 rx ry q=>ho pins s2 σ H2 x y v u Q I2 rx ry q)
theorem GE{f:Value->Value->Sem Value}{C:Int->Int->Prop}{g:Int->Int->Int}
  (rule:∀(i j:Int) (t u:Tok) (s:K8) (Q:K4) (E:K4),C i j->Q (.int (g i j) s.toks) {s with toks:=s.toks+1}->wpAny (model X.prog X.w) X.A (f (.int i t) (.int j u)) Q E s) :
  bd X f (rI C λi j=>.int (g i j)):=by
 intro pins s σ H x y v u Q I rx ry h;obtain⟨i,j,rfl,rfl,hc,q⟩:=h;obtain⟨t,rfl⟩:=rx;obtain⟨t',rfl⟩:=ry;exact rule i j t t' s _ _ hc ⟨.int (g i j),H,I.tok _,⟨_,rfl⟩,q⟩
theorem Gb{f:Value->Value->Sem Value}{g:Int->Int->Int}
  (rule:∀(i j:Int) (t u:Tok) (s:K8) (Q:K4) (E:K4),Q (.int (g i j) s.toks) {s with toks:=s.toks+1}->wpAny (model X.prog X.w) X.A (f (.int i t) (.int j u)) Q E s) :
  bd X f (AI λi j=>.int (g i j)):=by
 intro pins s σ H x y v u Q I rx ry h;obtain⟨i,j,rfl,rfl,q⟩:=h;obtain⟨t,rfl⟩:=rx;obtain⟨t',rfl⟩:=ry;exact rule i j t t' s _ _ ⟨.int (g i j),H,I.tok _,⟨_,rfl⟩,q⟩
theorem Ey{f:Value->Value->Sem Value}{g:Int->Int->Bool}
  (rule:∀(i j:Int) (t u:Tok) (s:K8) (Q:K4) (E:K4),Q (.bool (g i j)) s->wpAny (model X.prog X.w) X.A (f (.int i t) (.int j u)) Q E s) :
  bd X f (AI λi j=>.bl (g i j)):=by
 intro pins s σ H x y v u Q I rx ry h;obtain⟨i,j,rfl,rfl,q⟩:=h;obtain⟨t,rfl⟩:=rx;obtain⟨t',rfl⟩:=ry;exact rule i j t t' s _ _ ⟨.bl (g i j),H,I,rfl,q⟩
noncomputable def B4(i j:Int):Prop:=(-(2 ^ 64)<i/\i<2 ^ 64)\/(-(2 ^ 64)<j/\j<2 ^ 64)
theorem B4.ok{i j:Int}(h:B4 i j):IntMulOk i j:=by
 rcases h with⟨h1,h2⟩ | ⟨h1,h2⟩
 ·exact .of_left (intBits_le_64 h1 h2)
 ·exact .of_right (intBits_le_64 h1 h2)
theorem bN:bd X (binaryOp .Add) (AI λi j=>.int (i+j)):=Gb λ_ _ _ _ _ _ _ q=>add_int q
theorem eX:bd X (binaryOp .Sub) (AI λi j=>.int (i-j)):=Gb λ_ _ _ _ _ _ _ q=>sub_int q
theorem fk:bd X (binaryOp .Mult) (rI B4 λi j=>.int (i*j)):=GE λ_ _ _ _ _ _ _ hc q=>mul_int q hc.ok
theorem bI:bd X (binaryOp .Mod) (rI (λ_ j=>0<j) λi j=>.int (i%j)):=GE λi j _ _ _ _ _ hc q=>by
 have h1:(0:Int)<j:=hc;exact mod_int' ⋯ (by rw[Int.fmod_eq_emod_of_nonneg i ⋯];exact q)
end
noncomputable def DR:V->V->Bool
 | .non,.non=>true | .non,.int _=>true | .int _,.non=>true | .non,.bl _=>true | .bl _,.non=>true | .non,.str _=>true | .str _,.non=>true
 | .int _,.int _=>true | .bl _,.bl _=>true | .str _,.str _=>true | .byt _,.byt _=>true
 | .int _,.str _=>true | .str _,.int _=>true | .bl _,.str _=>true | .str _,.bl _=>true
 |_,_=>false
noncomputable def Hh:R2:=λx y H Q=>DR x y=true/\Q (.bl (decide (x=y))) H
noncomputable def G7:R2:=λx y H Q=>DR x y=true/\Q (.bl (!decide (x=y))) H
theorem yE{i j:Int}:decide (V.int i=V.int j)=(i==j):=by
 rw[Bool.eq_iff_iff];simp
theorem BT{i j:Bool}:decide (V.bl i=V.bl j)=(i==j):=by
 rw[Bool.eq_iff_iff];simp
theorem yx{i j:Str}:decide (V.str i=V.str j)=(i==j):=by
 rw[Bool.eq_iff_iff];simp
theorem yM{i j:Array UInt8}:decide (V.byt i=V.byt j)=(i.toList==j.toList):=by
 rw[Bool.eq_iff_iff];cases i;cases j;simp
section
variable {X:Cx}{a b c:Expr}{ta tb tc:TE}{pos:Pos}
theorem br{pins:K6}{σ:St}{H:Hp}{s:K8}{Q:VK}{k k':Bool}(I:Inv X pins σ H s)(q:Q (.bl k) H)(e:k=k'):EP X pins σ Q (.bool k') s:=by
 subst e;exact⟨.bl k,H,I,rfl,q⟩
theorem i':bd X (compareOp .Eq) Hh:=by
 intro pins s σ H x y v u Q I rx ry h;obtain⟨hs,q⟩:=h;cases x with
 |non=>
  cases rx;cases y with
  |non=>cases ry;exact PySem.EqNone.eq_none_none (br I q (by simp))
  |bl j=>cases ry;exact PySem.EqNone.eq_none_bool (br I q (by simp))
  |int j=>obtain⟨t',rfl⟩:=ry;exact PySem.EqNone.eq_none_int (br I q (by simp))
  |str j=>obtain⟨t',rfl⟩:=ry;exact PySem.EqNone.eq_none_str (br I q (by simp))
  |_=>exact absurd (show false=true from hs) Kx
 |bl i=>
  cases rx;cases y with
  |non=>cases ry;exact PySem.EqNone.eq_bool_none (br I q (by simp))
  |bl j=>cases ry;exact eq_bool (br I q BT)
  |str j=>obtain⟨t',rfl⟩:=ry;exact PySem.EqMixed.eq_bool_str (br I q (by simp))
  |_=>exact absurd (show false=true from hs) Kx
 |int i=>
  obtain⟨t,rfl⟩:=rx;cases y with
  |non=>cases ry;exact PySem.EqNone.eq_int_none (br I q (by simp))
  |int j=>obtain⟨t',rfl⟩:=ry;exact eq_int (br I q yE)
  |str j=>obtain⟨t',rfl⟩:=ry;exact PySem.EqMixed.eq_int_str (br I q (by simp))
  |_=>exact absurd (show false=true from hs) Kx
 |str i=>
  obtain⟨t,rfl⟩:=rx;cases y with
  |non=>cases ry;exact PySem.EqNone.eq_str_none (br I q (by simp))
  |bl j=>cases ry;exact PySem.EqMixed.eq_str_bool (br I q (by simp))
  |int j=>obtain⟨t',rfl⟩:=ry;exact PySem.EqMixed.eq_str_int (br I q (by simp))
  |str j=>obtain⟨t',rfl⟩:=ry;exact eq_str (br I q yx)
  |_=>exact absurd (show false=true from hs) Kx
 |byt i=>
  obtain⟨t,rfl⟩:=rx;cases y with
  |byt j=>obtain⟨t',rfl⟩:=ry;exact PySem.W.eq_bytes (br I q yM)
  |_=>exact absurd (show false=true from hs) Kx
 |_=>cases y<;>exact absurd (show false=true from hs) Kx
theorem rG:bd X (compareOp .NotEq) G7:=by
 intro pins s σ H x y v u Q I rx ry h;obtain⟨hs,q⟩:=h;cases x with
 |non=>
  cases rx;cases y with
  |non=>cases ry;exact PySem.EqNone.ne_none_none (br I q (by simp))
  |bl j=>cases ry;exact PySem.EqNone.ne_none_bool (br I q (by simp))
  |int j=>obtain⟨t',rfl⟩:=ry;exact PySem.EqNone.ne_none_int (br I q (by simp))
  |str j=>obtain⟨t',rfl⟩:=ry;exact PySem.EqNone.ne_none_str (br I q (by simp))
  |_=>exact absurd (show false=true from hs) Kx
 |bl i=>
  cases rx;cases y with
  |non=>cases ry;exact PySem.EqNone.ne_bool_none (br I q (by simp))
  |bl j=>cases ry;exact ne_bool (br I q (congrArg not BT))
  |str j=>obtain⟨t',rfl⟩:=ry;exact PySem.EqMixed.ne_bool_str (br I q (by simp))
  |_=>exact absurd (show false=true from hs) Kx
 |int i=>
  obtain⟨t,rfl⟩:=rx;cases y with
  |non=>cases ry;exact PySem.EqNone.ne_int_none (br I q (by simp))
  |int j=>obtain⟨t',rfl⟩:=ry;exact ne_int (br I q (congrArg not yE))
  |str j=>obtain⟨t',rfl⟩:=ry;exact PySem.EqMixed.ne_int_str (br I q (by simp))
  |_=>exact absurd (show false=true from hs) Kx
 |str i=>
  obtain⟨t,rfl⟩:=rx;cases y with
  |non=>cases ry;exact PySem.EqNone.ne_str_none (br I q (by simp))
  |bl j=>cases ry;exact PySem.EqMixed.ne_str_bool (br I q (by simp))
  |int j=>obtain⟨t',rfl⟩:=ry;exact PySem.EqMixed.ne_str_int (br I q (by simp))
  |str j=>obtain⟨t',rfl⟩:=ry;exact ne_str (br I q (congrArg not yx))
  |_=>exact absurd (show false=true from hs) Kx
 |byt i=>
  obtain⟨t,rfl⟩:=rx;cases y with
  |byt j=>obtain⟨t',rfl⟩:=ry;exact PySem.W.ne_bytes (br I q (congrArg not yM))
  |_=>exact absurd (show false=true from hs) Kx
 |_=>cases y<;>exact absurd (show false=true from hs) Kx
theorem pw:bd X (compareOp .Lt) (AI λi j=>.bl (decide (i<j))):=Ey λ_ _ _ _ _ _ _ q=>lt_int q
theorem l6:bd X (compareOp .LtE) (AI λi j=>.bl (decide (i<=j))):=Ey λ_ _ _ _ _ _ _ q=>le_int q
theorem jo:bd X (compareOp .Gt) (AI λi j=>.bl (decide (j<i))):=Ey λ_ _ _ _ _ _ _ q=>gt_int q
theorem EL:bd X (compareOp .GtE) (AI λi j=>.bl (decide (j<=i))):=Ey λ_ _ _ _ _ _ _ q=>ge_int q
theorem zH:bd X (compareOp .In) (λx y H Q=>∃i j,x=.str i/\y=.str j/\Q (.bl (!(Builtin.Str.occurrences j i 0 j.length 1).isEmpty)) H):=by
 intro pins s σ H x y v u Q I rx ry h;obtain⟨i,j,rfl,rfl,q⟩:=h;obtain⟨t,rfl⟩:=rx;obtain⟨t',rfl⟩:=ry;exact in_str (br I q rfl)
theorem uD:bd X (compareOp .IsNot) (λx y H Q=>y=.non/\Q (.bl (!decide (x=.non))) H):=by
 intro pins s σ H x y v u Q I rx ry h;obtain⟨rfl,q⟩:=h;cases ry;refine isnot_none_gen (br I q ?_);cases x<;>first
  | (cases rx;rfl)
  | (obtain⟨t,rfl⟩:=rx;rfl)
theorem sS:bd X (compareOp .NotIn) (λx y H Q=>∃i j,x=.str i/\y=.str j/\Q (.bl (!(!(Builtin.Str.occurrences j i 0 j.length 1).isEmpty))) H):=by
 intro pins s σ H x y v u Q I rx ry h;obtain⟨i,j,rfl,rfl,q⟩:=h;obtain⟨t,rfl⟩:=rx;obtain⟨t',rfl⟩:=ry;exact notIn_str (br I q rfl)
theorem aO(b:Expr){op:CmpOp}(h:autoParam (op≠.In) zz1._auto_1)(h2:autoParam (op≠.NotIn) zz1._auto_1):behindInMarks op b=false:=by
 have e1:(op==CmpOp.In)=false:=by cases op<;>first | rfl | exact absurd rfl h
 have e2:(op==CmpOp.NotIn)=false:=by cases op<;>first | rfl | exact absurd rfl h2
 cases b<;>simp[behindInMarks,e1,e2]
theorem oW{op:CmpOp}{r:R2}(ho:bd X (compareOp op) r)(ha:PE X a ta)(hb:PE X b tb)(hm:behindInMarks op b=false):PE X (.Compare a [op] [b] pos) (F6 r ta tb):=by
 intro pins s σ H Q I h;exact wpAny_Compare1 (Fs ha hb I h λv u s2 x y H2 I2 rx ry q=>ho pins s2 σ H2 x y v u Q I2 rx ry q) hm
noncomputable def v_(t:TE):TT:=λσ H Q=>t σ H λx H'=>∃k,x=.bl k/\Q k H'
theorem aH{op:CmpOp}{r:R2}(ho:bd X (compareOp op) r)(ha:PE X a ta)(hb:PE X b tb)(hm:behindInMarks op b=false):PT X (.Compare a [op] [b] pos) (v_ (F6 r ta tb)):=by
 intro pins s σ H Q I h;refine wpAny_isTrue_Compare1 (bZ (ha pins s σ H _ I h) λv s1 ⟨x,H1,I1,r1,q1⟩=>bZ (hb pins s1 σ H1 _ I1 q1) λu s2 ⟨y,H2,I2,r2,q2⟩=>
  bZ (ho pins s2 σ H2 x y v u _ I2 r1 r2 q2) λc s3 ⟨z,H3,I3,r3,k,e,q3⟩=>?_) hm
 subst e;cases r3;exact wpAny_truthy_bool ⟨H3,I3,q3⟩
noncomputable def sX(r r':R2)(ta tb tc:TE):TE:=λσ H Q=>ta σ H λx H1=>tb σ H1 λy H2=>r x y H2 λz H3=>∃k,z=.bl k /\
 (if k=true then tc σ H3 λw' H4=>r' y w' H4 Q else Q (.bl false) H3)
theorem vf{op op':CmpOp}{r r':R2}(ho:bd X (compareOp op) r)(ho':bd X (compareOp op') r')(ha:PE X a ta)(hb:PE X b tb)(hc:PE X c tc)
  (hm:autoParam (lastMarks [op,op'] [b,c]=false) zz5._auto_1):PE X (.Compare a [op,op'] [b,c] pos) (sX r r' ta tb tc):=by
 intro pins s σ H Q I h;refine Compare_chain (bZ (ha pins s σ H _ I h) λv s1 ⟨x,H1,I1,r1,q1⟩=>chain_link (bZ (hb pins s1 σ H1 _ I1 q1) λu s2 ⟨y,H2,I2,r2,q2⟩=>
  bZ (ho pins s2 σ H2 x y v u _ I2 r1 r2 q2) λd s3 ⟨z,H3,I3,r3,k,e,q3⟩=>?_)) hm
 subst e;cases r3;refine wpAny_truthy_bool ?_;cases k with
 |false=>exact ite_ff ⟨.bl false,H3,I3,rfl,q3⟩
 |true=>exact ite_tt (chain_last (bZ (hc pins s3 σ H3 _ I3 q3) λw' s4 ⟨z',H4,I4,r4,q4⟩=>ho' pins s4 σ H4 y z' u w' Q I4 r2 r4 q4))
theorem Dg{op op':CmpOp}{r r':R2}(ho:bd X (compareOp op) r)(ho':bd X (compareOp op') r')(ha:PE X a ta)(hb:PE X b tb)(hc:PE X c tc)
  (hm:autoParam (lastMarks [op,op'] [b,c]=false) zz5._auto_1):PT X (.Compare a [op,op'] [b,c] pos) (v_ (sX r r' ta tb tc)):=by
 intro pins s σ H Q I h;refine isTrue_chain (bZ (ha pins s σ H _ I h) λv s1 ⟨x,H1,I1,r1,q1⟩=>test_link (bZ (hb pins s1 σ H1 _ I1 q1) λu s2 ⟨y,H2,I2,r2,q2⟩=>
  bZ (ho pins s2 σ H2 x y v u _ I2 r1 r2 q2) λd s3 ⟨z,H3,I3,r3,k,e,q3⟩=>?_)) hm
 subst e;cases r3;refine wpAny_truthy_bool ?_;cases k with
 |false=>
  obtain⟨k',e',q'⟩:=q3;cases e';exact ite_ff ⟨H3,I3,q'⟩
 |true=>
  refine ite_tt (test_last (bZ (hc pins s3 σ H3 _ I3 q3) λw' s4 ⟨z',H4,I4,r4,q4⟩=>bZ (ho' pins s4 σ H4 y z' u w' _ I4 r2 r4 q4) λd' s5 ⟨z2,H5,I5,r5,k2,e2,q5⟩=>?_));subst e2;cases r5;exact wpAny_truthy_bool ⟨H5,I5,q5⟩
theorem pR:(sizeLine:Nat)<2 ^ 63:=by rw[sizeLine_eq];decide
theorem iM:bd X (binaryOp .Add) (λx y H Q=>∃i j,x=.str i/\y=.str j/\i.length+j.length<=sizeLine/\Q (.str (i++j)) H):=by
 intro pins s σ H x y v u Q I rx ry h;obtain⟨i,j,rfl,rfl,hz,q⟩:=h;obtain⟨t,rfl⟩:=rx;obtain⟨t',rfl⟩:=ry;exact add_str (λt' tk=>⟨.str (i++j),H,I.tok _,⟨_,rfl⟩,q⟩) hz
theorem vS{x:V}{us:K9}(r:bg [x] us):∃u,us=[u]/\bq x u:=by
 cases r with
 |cons r1 r2=>cases r2;exact⟨_,rfl,r1⟩
theorem ED{x y:V}{us:K9}(r:bg [x,y] us):∃u w',us=[u,w']/\bq x u/\bq y w':=by
 cases r with
 |cons r1 r2=>
  cases r2 with
  |cons r3 r4=>cases r4;exact⟨_,_,rfl,r1,r3⟩
theorem zD(hc:X.calm=true):gI X (.builtin "min") (λxs H Q=>∃i j,xs=[.int i,.int j]/\Q (.int (if j<i then j else i)) H):=by
 intro pins s σ H xs us Q I r h;obtain⟨i,j,rfl,q⟩:=h;obtain⟨u,w',rfl,⟨t,rfl⟩,⟨t',rfl⟩⟩:=ED r;refine min_two_ints (I.ok.hd hc) λh' tk k=>⟨_,H,I.kept k,?_,q⟩
 by_cases hj:j<i
 ·rw[if_pos hj,if_pos hj];exact⟨_,rfl⟩
 ·rw[if_neg hj,if_neg hj];exact⟨_,rfl⟩
end
structure yk(h:Heap)(x dx C:Addr)(mA:Lb):Prop where
 obj:h.get? x=some (PySem.W.instObj C dx)
 ns:h.Ns1 dx mA
 ne:dx≠x
theorem AF{h:Heap}{dx:Addr}{mA:Lb}(n:h.Ns1 dx mA):∃od,h.get? dx=some od/\∀name,PySem.W.lookIn name od=some (mA name):=by
 obtain⟨o,es,ep,ho,hd,hk,_,hm⟩:=n;refine⟨o,ho,λname=>?_⟩;have e:=hm name;unfold nsFind findBy at e;rw[<- Array.find?_toList]at e;unfold PySem.W.lookIn;rw[hd];dsimp only
 split
 ·rename_i y q
  rw[q]at e;exact congrArg some e
 ·rename_i q
  rw[q]at e;have a:es.toList.any (·.refKey)=false:=by
   rw[List.any_eq_false];intro y hy;obtain⟨z,t,hkey⟩:=hk y (Array.mem_toList_iff.mp hy);simp[DictEntry.refKey,hkey]
  have a':¬ es.toList.any (·.refKey)=true:=by rw[a];exact Kx
  rw[if_neg a'];exact congrArg some e
theorem yk.look{h:Heap}{x dx C:Addr}{mA:Lb}(I:yk h x dx C mA):∃od,PySem.W.InstAt h x (PySem.W.instObj C dx) C (some od)/\∀name,PySem.W.lookIn name od=some (mA name):=
 let ⟨od,ho,hl⟩:=AF I.ns
 ⟨od,⟨I.obj,rfl,rfl,ho⟩,hl⟩
section
variable {prog:Ld}{w:Lg}{A:Lf}{E:K4}{s:K8}{K:K5}{x dx C f:Addr}{mA:Lb}{name:Str}{v:Value}
theorem DS{expr:Bool}{Q:K4}(X:K.In s.heap)(I:yk s.heap x dx C mA)(hg:PySem.W.plainGet K C name=true)(hh:PySem.W.hasDictIn K C=true)
  (ha:PySem.W.findIn K (.ref C) name=some none) (hv:mA name=some v) (hv':PySem.W.handedIn v=true) (h:Q v {s with toks:=s.toks+1}) :
  wpAny (model prog w) A (getAttr (.ref x) name expr) Q E s:=by
 obtain⟨od,J,hl⟩:=I.look;exact PySem.W.get_value X J (PySem.W.plainGet_of hg).1 (PySem.W.findObj_own hh ha rfl (by rw[hl,hv])) hv' h
theorem Dj{pl:Sem Bool}{Q:Value×List Value->Shared->Prop}(X:K.In s.heap)(I:yk s.heap x dx C mA)(hg:PySem.W.plainGet K C name=true)
  (hf:PySem.W.findIn K (.ref C) name=some (some (.ref f))) (ht:PySem.W.isFn K (.ref f)=true) (hv:mA name=none) (h:Q (.ref f,[.ref x]) s) :
  wpAny (model prog w) A (getMethod (.ref x) name pl) Q E s:=by
 obtain⟨od,J,hl⟩:=I.look;exact PySem.W.method_fn X J (PySem.W.plainGet_of hg).1 (PySem.W.plainGet_of hg).2 hf (beq_iff_eq.mp ht) (by show(PySem.W.lookIn name od).map (·.isSome)=some false;rw[hl,hv];rfl) h
theorem DH{ns:Le}{Q:Unit->Shared->Prop}(X:K.In s.heap)(I:yk s.heap x dx C mA)
  (hs:PySem.W.findIn K (.ref C) "__setattr__"=some (some (.builtin "object.__setattr__"))) (hp:PySem.W.plainOver K C=true) (ht:PySem.W.takerIn K C name=some none) (hh:PySem.W.hasDictIn K C=true)
  (hw:PySem.Within mA ns) (hsz:ns.length<=sizeLine)
  (h:∀h',yk h' x dx C (λy=>if y=name then some v else mA y)->Heap.SameBut dx s.heap h'->Q () {s with heap:=h',toks:=s.toks+2}) :
  wpAny (model prog w) A (setAttr (.ref x) name v) Q E s:=by
 obtain⟨od,J,hl⟩:=I.look;refine PySem.W.set_plain X J hs (PySem.W.osa_open (s:={s with toks:=s.toks+1}) (r:=none) X J hp ht λb=>?_);obtain⟨cd,hc,hd'⟩:=PySem.W.any_some hh;have hx:s.heap.get? x=some ⟨.ref C,some dx,.plain,#[]⟩:=I.obj;refine wpAny_bind (wpAny_pure (wpAny_bind (wpAny_bind (wpAny_loadPart hx (wpAny_bind (PySem.W.Looks.here (s:={s with toks:=s.toks+1}) (PySem.W.looks_clsIn X hc) ?_))))));rw[hd'];refine wpAny_pure (a:=some dx) (wpAny_bind (wpAny_pure (wpAny_bind ?_)));refine wpAny_nsSet1 (s:={s with toks:=s.toks+1}) I.ns λh' hn2 hs2=>?_;obtain⟨oD,esD,epD,hoD,hdD,hcD⟩:=hn2.count (PySem.Within.cons name v hw);refine wpAny_bind (wpAny_lookBehind hoD (by rw[hdD];exact pastItsLine_dict (KD hcD (by rw[Ki];omega))) ?_);exact wpAny_pure (h _ ⟨(hs2.2 _ (Ne.symm I.ne)).trans I.obj,hn2,I.ne⟩ hs2)
theorem Cs{R:Result->Shared->Prop}{vs:K9}{kw:List (Str×Value)}(X:K.In s.heap)(hm:PySem.W.makesIn K C=true)
  (hi:PySem.W.findIn K (.ref C) "__init__"=some (some (.ref f))) (hf:PySem.W.typeIn K (.ref f)=some (.type "function"))
  (h:codeAny (model prog w) (A.under (.builtin "type.__call__" ⟨.ref C::vs,kw⟩)) (.call (.ref f) ⟨.ref (s.heap.objs.size+1)::vs,kw⟩) (PySem.W.InitBack (s.heap.objs.size+1) R)
   {s with heap:=(s.heap.push PySem.W.emptyDict).push (PySem.W.instObj C s.heap.objs.size)}) :
  codeAny (model prog w) A (.call (.ref C) ⟨vs,kw⟩) R s:=by
 obtain⟨hh,g,d,t,os⟩:=s;exact PySem.W.make_core (PySem.W.makes_of X hm) (PySem.W.looks_findIn X hi) (λself=>PySem.W.bind_fn X self hf) (.inl rfl) h
end
noncomputable def cI(f:Str)(v:V):List (Str×V)->List (Str×V)
 | []=>[(f,v)]
 | (g,x)::r=>if g=f then(g,v)::r else(g,x)::cI f v r
theorem ol(f g:Str)(v:V):∀fs:List (Str×V),(cI f v fs).lookup g=if g=f then some v else fs.lookup g
 | []=>by
  show List.lookup g [(f,v)]=_
  by_cases h:g=f
  ·have hb:(g==f)=true:=beq_iff_eq.mpr h
   simp only[List.lookup,hb,if_pos h]
  ·have hb:(g==f)=false:=beq_eq_false_iff_ne.mpr h
   simp only[List.lookup,hb,if_neg h]
 | (k,x)::r=>by
  have ih:=ol f g v r;rw[show cI f v ((k,x)::r)=(if k=f then(k,v)::r else(k,x)::cI f v r) from rfl]
  by_cases hk:k=f
  ·rw[if_pos hk]
   by_cases h:g=k
   ·have hb:(g==k)=true:=beq_iff_eq.mpr h
    simp only[List.lookup,hb,if_pos (h.trans hk)]
   ·have hb:(g==k)=false:=beq_eq_false_iff_ne.mpr h
    simp only[List.lookup,hb,if_neg (λe:g=f=>h (e.trans hk.symm))]
  ·rw[if_neg hk]
   by_cases h:g=k
   ·have hb:(g==k)=true:=beq_iff_eq.mpr h
    simp only[List.lookup,hb,if_neg (λe:g=f=>hk (h.symm.trans e))]
   ·have hb:(g==k)=false:=beq_eq_false_iff_ne.mpr h
    simp only[List.lookup,hb];exact ih
theorem ng(f:Str)(v:V):∀fs:List (Str×V),f∈(cI f v fs).map (·.1)/\∀g,g∈fs.map (·.1)->g∈(cI f v fs).map (·.1)
 | []=>⟨by simp[cI],λg h=>by simp at h⟩
 | (k,x)::r=>by
  obtain⟨i1,i2⟩:=ng f v r;rw[show cI f v ((k,x)::r)=(if k=f then(k,v)::r else(k,x)::cI f v r) from rfl]
  by_cases hk:k=f
  ·rw[if_pos hk]
   subst hk;exact⟨by simp,λg h=>by simpa using h⟩
  ·rw[if_neg hk]
   refine⟨?_,λg h=>?_⟩
   ·rw[KC]
    exact Kn _ i1
   ·rw[KC]at h ⊢
    rcases Km.mp h with e | e
    ·exact Km.mpr (.inl e)
    ·exact Kn _ (i2 g e)
theorem c7(f:Str)(v:V):∀fs:List (Str×V),(cI f v fs).length<=fs.length+1
 | []=>by simp[cI]
 | (k,x)::r=>by
  have ih:=c7 f v r;rw[show cI f v ((k,x)::r)=(if k=f then(k,v)::r else(k,x)::cI f v r) from rfl]
  by_cases hk:k=f
  ·rw[if_pos hk,Ki,Ki];omega
  ·rw[if_neg hk,Ki,Ki];omega
theorem jO.some_of{v:V}{o:Option Value}(r:jO (some v) o):∃u,o=some u/\bq v u:=by
 cases o with
 |none=>exact(show False from r).elim
 |some u=>exact⟨u,rfl,r⟩
theorem jO.none_of{o:Option Value}(r:jO none o):o=none:=by
 cases o with
 |none=>rfl
 |some u=>exact(show False from r).elim
theorem zE{v:V}{u:Value}(r:bq v u):PySem.W.handedIn u=true:=by
 cases v with
 |non=>cases(show u=Value.none from r);rfl
 |bl b=>cases(show u=Value.bool b from r);rfl
 |int i=>obtain⟨t,e⟩:=(show ∃t,u=Value.int i t from r);cases e;rfl
 |str x=>obtain⟨t,e⟩:=(show ∃t,u=Value.str x t from r);cases e;rfl
 |byt b=>obtain⟨t,e⟩:=(show ∃t,u=Value.bytes b t from r);cases e;rfl
 |flt b=>obtain⟨t,e⟩:=(show ∃t,u=Value.float b t from r);cases e;rfl
 |ref a=>cases(show u=Value.ref a from r);rfl
 |ty n=>cases(show u=Value.type n from r);rfl
section
variable {P:Ld}{w:Lg}{H H':Hp}{h h':Heap}{a C dx:Addr}{fs fs':List (Str×V)}
theorem oU(hok:km P w H h)(e:H a=some (.ins C dx fs)):∃mA,yk h a dx C mA/\(∀f,jO (fs.lookup f) (mA f))/\PySem.Within mA (fs.map (·.1))/\fs.length<=1000/\H dx=some (.own a):=by
 obtain⟨d,z,ne,ob,mA,n,r,q⟩:=(show bS P w H h a (.ins C dx fs) from hok a _ e);exact⟨mA,⟨ob,n,ne⟩,r,q,z,d⟩
end
structure lW(K:K5)(C:Addr):Prop where
 pg:PySem.W.plainGet K C Str.empty=true
 hd:PySem.W.hasDictIn K C=true
 po:PySem.W.plainOver K C=true
 sa:PySem.W.findIn K (.ref C) "__setattr__"=some (some (.builtin "object.__setattr__"))
theorem lW.get{K:K5}{C:Addr}(c:lW K C)(f:Str):PySem.W.plainGet K C f=true:=c.pg
noncomputable def aq(K:K5)(C:Addr)(f:Str):Prop:=PySem.W.findIn K (.ref C) f=some none
theorem aq.taker{K:K5}{C:Addr}{f:Str}(n:aq K C f):PySem.W.takerIn K C f=some none:=by
 unfold PySem.W.takerIn;rw[show PySem.W.findIn K (.ref C) f=some none from n]
 rfl
structure J6(K:K5)(C:Addr)(f:Str)(v:V)(u:Value):Prop where
 at_:PySem.W.findIn K (.ref C) f=some (some u)
 rel:bq v u
 get:PySem.W.specialIn K u "__get__"=some none
 cp:PySem.W.copiedNames.contains f=false
structure cN(K:K5)(C:Addr)(m:Str)(f:Addr):Prop where
 at_:PySem.W.findIn K (.ref C) m=some (some (.ref f))
 fn:PySem.W.isFn K (.ref f)=true
 kp:PySem.W.keepIn K (.ref f)=true
section
variable {X:Cx}{pins:K6}{σ:St}{H:Hp}{s:K8}{a C dx:Addr}{fs:List (Str×V)}{f:Str}{v:V}{A:Lf}{E:K4}
theorem xA{b:Bool}{Q:K4}(I:Inv X pins σ H s)(e:H a=some (.ins C dx fs))(c:lW X.K C)(n:aq X.K C f)(l:fs.lookup f=some v)
  (h:∀u s',Inv X pins σ H s'->bq v u->Q u s'):wpAny (model X.prog X.w) A (getAttr (.ref a) f b) Q E s:=by
 obtain⟨mA,O,r,_,_,_⟩:=oU I.hok e;obtain⟨u,hu,ru⟩:=jO.some_of (v:=v) (o:=mA f) (by rw[<- l];exact r f);exact DS I.kIn O (c.get f) c.hd n hu (zE ru) (h u _ (I.tok _) ru)
theorem gl{m:Str}{g:Addr}{pl:Sem Bool}{Q:Value×List Value->Shared->Prop}(I:Inv X pins σ H s)(e:H a=some (.ins C dx fs))(c:lW X.K C)(k:cN X.K C m g)(l:fs.lookup m=none)
  (h:Q (.ref g,[.ref a]) s):wpAny (model X.prog X.w) A (getMethod (.ref a) m pl) Q E s:=by
 obtain⟨mA,O,r,_,_,_⟩:=oU I.hok e;have hn:mA m=none:=jO.none_of (by rw[<- l];exact r m);exact Dj I.kIn O (c.get m) k.at_ k.fn hn h
theorem xN{y:V}{u:Value}{Q:Unit->Shared->Prop}(I:Inv X pins σ H s)(e:H a=some (.ins C dx fs))(c:lW X.K C)(n:aq X.K C f)(hl:fs.length<1000)(ry:bq y u)
  (h:∀s',Inv X pins σ (ax H a (.ins C dx (cI f y fs))) s'->Q () s'):wpAny (model X.prog X.w) A (setAttr (.ref a) f u) Q E s:=by
 obtain⟨mA,O,r,wi,_,ho⟩:=oU I.hok e;have hz:(fs.map (·.1)).length<=sizeLine:=by rw[J_,sizeLine_eq];omega
 refine DH I.kIn O c.sa c.po n.taker c.hd wi hz λh' O' sb=>h _ ?_;have hd:∃o,h'.get? dx=some o:=let ⟨o,_,_,e',_⟩:=O'.ns;⟨o,e'⟩
 refine I.write (x:=a) (e:=dx) (by rw[e];exact True.intro) (.inr ho) (λb q hb z=>(sb.2 b hb).trans z) hd ?_;refine⟨by rw[ao O.ne];exact ho,?_,O.ne,O'.obj,_,O'.ns,λg=>?_,λg hg=>?_⟩
 ·have:=c7 f y fs;omega
 ·show jO ((cI f y fs).lookup g) (if g=f then some u else mA g)
  rw[ol]
  by_cases q:g=f
  ·rw[if_pos q,if_pos q];exact ry
  ·rw[if_neg q,if_neg q];exact r g
 ·by_cases q:g=f
  ·rw[q];exact(ng f y fs).1
  ·refine(ng f y fs).2 g (wi g λz=>hg ?_)
   show(if g=f then some u else mA g)=none;rw[if_neg q];exact z
theorem Inv.made(I:Inv X pins σ H s):Inv X pins σ (ax (ax H s.heap.objs.size (.own (s.heap.objs.size+1))) (s.heap.objs.size+1) (.ins C s.heap.objs.size []))
  {s with heap:=(s.heap.push PySem.W.emptyDict).push (PySem.W.instObj C s.heap.objs.size)}:=by
 have e1:(s.heap.push PySem.W.emptyDict).get? s.heap.objs.size=some PySem.W.emptyDict:=Kd s.heap rfl;have e2:((s.heap.push PySem.W.emptyDict).push (PySem.W.instObj C s.heap.objs.size)).get? (s.heap.objs.size+1)=some (PySem.W.instObj C s.heap.objs.size):=by
  have:=Kd (s.heap.push PySem.W.emptyDict) (o:=PySem.W.instObj C s.heap.objs.size) rfl
  rwa [Heap.size_push]at this
 have e3:(s.heap.push PySem.W.emptyDict).Ns s.heap.objs.size (λ_=>none):=⟨PySem.W.emptyDict,#[],_,e1,rfl,(λe he=>absurd he (by simp)),λ_=>rfl⟩;have I1:=I.laid (a:=s.heap.objs.size) (o:=.own (s.heap.objs.size+1)) (h':=s.heap.push PySem.W.emptyDict) (t':=s.toks) (λb u q=>J9 _ q) (Kv _) ⟨_,e1⟩;refine I1.laid (a:=s.heap.objs.size+1) (o:=.ins C s.heap.objs.size []) (t':=s.toks) (λb u q=>J9 _ q) (Nat.le_of_eq (Heap.size_push _ _)) ?_;have ne:s.heap.objs.size≠s.heap.objs.size+1:=Kr (KG _);refine⟨by rw[ao ne,ac],Kw _,ne,e2,λ_=>none,(Heap.Ns1.of_empty e3).at λo q=>J9 _ q,λ_=>True.intro,λy hy=>absurd rfl hy⟩
theorem D'{prog:Ld}{w:Lg}{env:Env}{e:Expr}{f:Str}{pos:Pos}{s:K8}{Q:K4}(hb:attributeBase e f env (eval e env)=eval e env)
  (h:wpAny (model prog w) A (eval e env) (λo s₁=>wpAny (model prog w) A (getAttr o f true) Q E s₁) E s):wpAny (model prog w) A (eval (.Attribute e f pos) env) Q E s:=
 Attribute_any_ h (by rw[arm_eval_Attribute,hb])
end
noncomputable def Ef(K:K5)(ta:TE)(f:Str):TE:=λσ H Q=>ta σ H λx H1=>∃a C dx fs v,x=.ref a/\H1 a=some (.ins C dx fs)/\lW K C/\aq K C f/\fs.lookup f=some v/\Q v H1
noncomputable def FN(K:K5)(ta tv:TE)(f:Str):TS:=λD σ H=>tv σ H λy H1=>ta σ H1 λx H2=>∃a C dx fs,x=.ref a/\H2 a=some (.ins C dx fs)/\lW K C/\aq K C f/\fs.length<1000 /\
 D.nx σ (ax H2 a (.ins C dx (cI f y fs)))
section
variable {X:Cx}{o e value:Expr}{f:Str}{pos pos' tpos:Pos}{ta tv:TE}
theorem bA(he:PE X e ta)(hb:attributeBase e f X.env (eval e X.env)=eval e X.env):PE X (.Attribute e f pos) (Ef X.K ta f):=by
 intro pins s σ H Q I h;refine D' hb (bZ (he pins s σ H _ I h) λu s1 ⟨x,H1,I1,rx,a,C,dx,fs,v,ex,ea,c,n,l,q⟩=>?_);subst ex;obtain rfl:u=Value.ref a:=rx;exact xA I1 ea c n l λu' s2 I2 ru=>⟨v,H1,I2,ru,q⟩
theorem c8(ha:PE X o ta)(hv:PE X value tv)(hs:swapsWith value (some (.Attribute o f pos')) pos.line X.env=pure false):PS X (.Assign [.Attribute o f pos'] value pos) (FN X.K ta tv f):=by
 intro pins s σ H D I h;refine plainObj_wpAny_Assign_Attribute (bZ (hv pins s σ H _ I h) λu s1 ⟨y,H1,I1,ry,q⟩=>bZ (ha pins s1 σ H1 _ I1 q) λov s2 ⟨x,H2,I2,rx,a,C,dx,fs,ex,ea,c,n,l,q2⟩=>?_) hs;subst ex;obtain rfl:ov=Value.ref a:=rx;exact xN I2 ea c n l ry λs3 I3=>⟨σ,_,I3,q2⟩
theorem EN{pl:Sem Bool}{m:Str}{apos:Pos}{args:Li}{pins:K6}{s:K8}{σ:St}{H:Hp}{Q:K4}{te:TE}(he:PE X e te)(I:Inv X pins σ H s)
  (h:te σ H λx H1=>∃a C dx fs g,x=.ref a/\H1 a=some (.ins C dx fs)/\lW X.K C/\cN X.K C m g/\fs.lookup m=none /\
   ∀s1,Inv X pins σ H1 s1->wpAny (model X.prog X.w) X.A (callWith pos (.ref g) [.ref a] (backTo pos (starEach args X.env)) (backToKw pos (keywordEach [] X.env))) Q X.xe s1)
  (ht:eval (.Call (.Attribute e m apos) args [] pos) X.env=(do
   let ov <- eval e X.env
   standAt apos.atName
   let (f,first) <- holding [ov] (getMethod ov m pl)
   callWith pos f first (backTo pos (starEach args X.env)) (backToKw pos (keywordEach [] X.env)))) :
  wpAny (model X.prog X.w) X.A (eval (.Call (.Attribute e m apos) args [] pos) X.env) Q X.xe s:=by
 refine PySem.W.methodCall_KW (pl:=pl) (bZ (he pins s σ H _ I h) λu s1 ⟨x,H1,I1,rx,a,C,dx,fs,g,ex,ea,c,k,l,q⟩=>?_) ht;subst ex;obtain rfl:u=Value.ref a:=rx;exact gl I1 ea c k l (q s1 I1)
end
section
variable {X:Cx}{pins:K6}{σ:St}{H:Hp}{s:K8}{A:Lf}{E:K4}{Q:K4}{c:Value}{b:Bool}
inductive kr(K:K5)(H:Hp):V->Value->Prop where
 |non:kr K H .non (.type "NoneType")
 |bl (x:Bool):kr K H (.bl x) (.type "bool")
 |int (i:Int):kr K H (.int i) (.type "int")
 |str (x:Str):kr K H (.str x) (.type "str")
 |flt (x:UInt64):kr K H (.flt x) (.type "float")
 |lst {a:Addr} {xs:List V} (e:H a=some (.lst xs)):kr K H (.ref a) (.type "list")
 |frz {a:Addr} {o:Obj} {xs:List V} (e:H a=some (.frz o (.lst xs))):kr K H (.ref a) (.type "list")
 |tup {a:Addr} {xs:List V} (e:H a=some (.tup xs)):kr K H (.ref a) (.type "tuple")
 |dK {a:Addr} {kvs:List (cS×V)} (e:H a=some (.dK kvs)):kr K H (.ref a) (.type "dict")
 |dT {a:Addr} {kvs:List (List cS×V)} (e:H a=some (.dT kvs)):kr K H (.ref a) (.type "dict")
 |ins {a C dx:Addr} {fs:List (Str×V)} (e:H a=some (.ins C dx fs)) (cl:lW K C) (ha:PySem.W.findIn K (.ref C) "__class__"=some (some (.builtin "object.__class__")))
   (hn:PySem.W.specialIn K (.builtin "object.__class__") "__get__"=some (some (.builtin "getset_descriptor.__get__"))) (htk:PySem.W.takesIn K (.builtin "object.__class__")=some true)
   (hm:PySem.W.mroIn K C (.type "object")=some true):kr K H (.ref a) (.ref C)
theorem Bj{x:V}{u t:Value}(I:Inv X pins σ H s)(rx:bq x u)(ty:kr X.K H x t)(e:PySem.W.kitOne X.K t c=some b)(h:∀tk,Q (.bool b) {s with toks:=tk}) :
  wpAny (model X.prog X.w) A (call (.builtin "isinstance") [u,c]) Q E s:=by
 cases ty with
 |non=>cases(show u=Value.none from rx);exact PySem.W.kia_one PySem.W.kitx_none I.kIn True.intro e (λz=>nomatch z) h
 |bl y=>cases(show u=Value.bool y from rx);exact PySem.W.kia_one PySem.W.kitx_bool I.kIn True.intro e (λz=>nomatch z) h
 |int i=>obtain⟨t,q⟩:=(show ∃t,u=Value.int i t from rx);cases q;exact PySem.W.kia_one PySem.W.kitx_int I.kIn True.intro e (λz=>nomatch z) h
 |str y=>obtain⟨t,q⟩:=(show ∃t,u=Value.str y t from rx);cases q;exact PySem.W.kia_one PySem.W.kitx_str I.kIn True.intro e (λz=>nomatch z) h
 |flt y=>obtain⟨t,q⟩:=(show ∃t,u=Value.float y t from rx);cases q;exact PySem.W.kia_one PySem.W.kitx_float I.kIn True.intro e (λz=>nomatch z) h
 | @lst a xs ea=>
  cases(show u=Value.ref a from rx);obtain⟨_,_,n,_,h1⟩:=(show bS X.prog X.w H s.heap a (.lst xs) from I.hok a _ ea);exact PySem.W.kia_one PySem.W.kitx_list I.kIn ⟨_,h1,rfl⟩ e (λz=>nomatch z) h
 | @frz a ob xs ea=>
  cases(show u=Value.ref a from rx);obtain⟨_,_,_,n,_,h1⟩:=(show bS X.prog X.w H s.heap a (.frz ob (.lst xs)) from I.hok a _ ea);exact PySem.W.kia_one PySem.W.kitx_list I.kIn ⟨_,h1,rfl⟩ e (λz=>nomatch z) h
 | @tup a xs ea=>
  cases(show u=Value.ref a from rx);obtain⟨_,_,_,p⟩:=(show bS X.prog X.w H s.heap a (.tup xs) from I.hok a _ ea);obtain⟨o,h1,h2,_⟩:=p;exact PySem.W.kia_one PySem.W.kitx_tuple I.kIn ⟨o,h1,h2⟩ e (λz=>nomatch z) h
 | @dK a kvs ea=>
  cases(show u=Value.ref a from rx);obtain⟨_,_,vs,_,p⟩:=(show bS X.prog X.w H s.heap a (.dK kvs) from I.hok a _ ea);obtain⟨o,es,ep,h1,h2,_⟩:=p;exact PySem.W.kia_one PySem.W.kitx_dict I.kIn ⟨o,h1,h2.1⟩ e (λz=>nomatch z) h
 | @dT a kvs ea=>
  cases(show u=Value.ref a from rx);obtain⟨_,_,xs,_,o,es,ep,h1,h2,_⟩:=(show bS X.prog X.w H s.heap a (.dT kvs) from I.hok a _ ea);exact PySem.W.kia_one PySem.W.kitx_dict I.kIn ⟨o,h1,h2.1⟩ e (λz=>nomatch z) h
 | @ins a C dx fs ea cl ha hn htk hm=>
  cases(show u=Value.ref a from rx);obtain⟨mA,O,_⟩:=oU I.hok ea;obtain⟨od,J,_⟩:=O.look;exact PySem.W.kia_one (PySem.W.kitx_own (cl.get _) cl.hd ha hn htk hm) I.kIn J e (λz=>nomatch z) h
end
structure dr(k:Nat)(A:Lf):Prop where
 hd:A.handled=none
 dp:A.depth+3*k+5<recursionLimit
 un:A.units+16*k+200<cLine
theorem dr.mono{j k:Nat}{A:Lf}(r:dr k A)(h:j<=k):dr j A:=⟨r.hd,by have:=r.dp;omega,by have:=r.un;omega⟩
theorem dr.deeper{k:Nat}{A:Lf}(r:dr (k+1) A)(env:Env):dr k (A.deeper env):=
 ⟨r.hd,by have:=r.dp;show A.depth+1+3*k+5<_;omega,by have:=r.un;show A.units+3+16*k+200<_;omega⟩
theorem wF{A:Lf}{C:Addr}{us:K9}{kw:List (Str×Value)}:(A.under (.builtin "type.__call__" ⟨.ref C::us,kw⟩)).depth=A.depth+1:=by
 first | rfl | simp[Around.under,Code.weight,Code.isCreation,Code.isGuard,Code.isCaller,Code.frames,Code.isFrame,guardIds]
theorem wJ{A:Lf}{C:Addr}{us:K9}{kw:List (Str×Value)}:(A.under (.builtin "type.__call__" ⟨.ref C::us,kw⟩)).units=A.units+1:=by
 first | rfl | simp[Around.under,Code.cUnits,Code.frames,Code.isFrame]
theorem dr.make{k:Nat}{A:Lf}(r:dr (k+1) A)(C:Addr)(us:K9)(kw:List (Str×Value)):dr k (A.under (.builtin "type.__call__" ⟨.ref C::us,kw⟩)):=
 ⟨r.hd,by have:=r.dp;rw[wF];omega,by have:=r.un;rw[wJ];omega⟩
theorem dr.depth{k:Nat}{A:Lf}(r:dr k A):A.depth<recursionLimit:=by have:=r.dp;omega
theorem dr.units{k:Nat}{A:Lf}(r:dr k A):A.units+64<cLine:=by have:=r.un;omega
noncomputable def tT:TA:=λ_ H Q=>Q [] H
noncomputable def pi(ta:TE)(tr:TA):TA:=λσ H Q=>ta σ H λx H1=>tr σ H1 λxs H2=>Q (x::xs) H2
section
variable {X:Cx}{e:Expr}{es:Li}{te:TE}{t:TA}{pos:Pos}
theorem ad:PA X [] tT:=λ_ _ _ _ H Q I h=>Calls.spliced_nil ⟨[],H,I,.nil,h⟩
theorem aa(ha:PE X e te)(hr:PA X es t)(hs:autoParam (starEach (e::es) X.env=(false,eval e X.env)::starEach es X.env) zz0._auto_1):PA X (e::es) (pi te t):=by
 intro pos pins s σ H Q I h;rw[hs];show wpAny _ _ (spliced ((false,eval e X.env)::backTo pos (starEach es X.env))) _ _ s;refine Calls.spliced_cons (bZ (ha pins s σ H _ I h) λu s1 ⟨x,H1,I1,r1,q1⟩=>?_);exact bZ (hr pos pins s1 σ H1 _ I1 q1) λus s2 ⟨xs,H2,I2,r2,q2⟩=>⟨x::xs,H2,I2,.cons r1 r2,q2⟩
noncomputable def FD(t:TA):TE:=λσ H Q=>t σ H λxs H1=>xs.length<=sizeLine/\∀p,H1 p=none->Q (.ref p) (ax H1 p (.tup xs))
noncomputable def D1(t:TA):TE:=λσ H Q=>t σ H λxs H1=>xs.length<=sizeLine/\∀p,H1 p=none->Q (.ref p) (ax H1 p (.lst xs))
theorem aL{x1}(h:PA X es t):PE X (.Tuple es x1 pos) (FD t):=by
 intro pins s σ H Q I hq;refine wpAny_Tuple_spliced (bZ (h pos pins s σ H _ I hq) λus s1 ⟨xs,H1,I1,r,z,q⟩=>⟨by rw[<- r.length];exact z,?_⟩);have hf:H1 s1.heap.objs.size=none:=I1.hok.fresh (Kv _);refine⟨.ref s1.heap.objs.size,ax H1 s1.heap.objs.size (.tup xs),I1.laid (t':=s1.toks) (λb u e=>J9 _ e) (Kv _) ?_,rfl,q _ hf⟩;exact⟨z,us,r,⟨_,Kd _ rfl,rfl,_,rfl⟩⟩
theorem bH(h:PA X es t):PE X (.List es pos) (D1 t):=by
 intro pins s σ H Q I hq;refine wpAny_List_spliced (bZ (h pos pins s σ H _ I hq) λus s1 ⟨xs,H1,I1,r,z,q⟩=>⟨by rw[<- r.length];exact z,?_⟩);have hf:H1 s1.heap.objs.size=none:=I1.hok.fresh (Kv _);refine⟨.ref s1.heap.objs.size,ax H1 s1.heap.objs.size (.lst xs),I1.laid (t':=s1.toks) (λb u e=>J9 _ e) (Kv _) ?_,rfl,q _ hf⟩;exact⟨z,us,0,r,Kd _ rfl⟩
end
noncomputable abbrev Sp:=List V->Hp->VK->XK->Prop
noncomputable abbrev k8:=List Env->Hp->Shared->XK->Value->Shared->Prop
structure vb(P:Ld)(w:Lg)(K:K5)(mg:Lb)(base:Heap)(A:Lf)(outer:List Env)(s:K8)(H:Hp):Prop where
 frames:A.frames=some outer
 mod:Mod K mg base
 bs:∀b o,base.get? b=some o->s.heap.get? b=some o/\H b=none
 bsz:base.objs.size<=s.heap.objs.size
 funs:s.heap.FunFrames base outer
 frf:∀b∈mM outer,H b=none
 hok:km P w H s.heap
 bare:AllBare s.gens
noncomputable def CE(outer:List Env)(P:Ld)(w:Lg)(H:Hp)(s:K8)(Q:VK)(u:Value)(s':K8):Prop:=
 ∃v H',s'.os=s.os/\AllBare s'.gens/\Un (mM outer) [] H H' s.heap s'.heap/\km P w H' s'.heap/\bq v u/\Q v H'
noncomputable def CR(CX:k8)(outer:List Env)(P:Ld)(w:Lg)(H:Hp)(s:K8)(Q:VK)(E:XK)(r:Result)(s':K8):Prop:=
 match r with
 | .ok (.ret u)=>CE outer P w H s Q u s'
 | .ok _=>False
 | .error e=>CX outer H s E e s'
structure aQ(P:Ld)(w:Lg)(K:K5)(mg:Lb)(base:Heap)(CX:k8)(k:Nat)(f:Addr)(fd:Lc)(ps:Le)(sp:Sp):Prop where
 len:∀vs H Q E,sp vs H Q E->vs.length=ps.length
 run:∀(A:Lf) (outer:List Env) (s:K8) (H:Hp) (args:Args) (us:K9) (vs:List V) (Q:VK) (E:XK),dr k A->vb P w K mg base A outer s H->BindsTo s fd args (ps.zip us)->bg vs us->sp vs H Q E ->
  codeAny (model P w) A (.call (.ref f) args) (CR CX outer P w H s Q E) s
theorem aQ.mono{P:Ld}{w:Lg}{K:K5}{mg:Lb}{base:Heap}{CX:k8}{j k:Nat}{f:Addr}{fd:Lc}{ps:Le}{sp:Sp}(F:aQ P w K mg base CX j f fd ps sp)(h:j<=k) :
  aQ P w K mg base CX k f fd ps sp:=⟨F.len,λA outer s H args us vs Q E hr=>F.run A outer s H args us vs Q E (hr.mono h)⟩
theorem vb.make{P:Ld}{w:Lg}{K:K5}{mg:Lb}{base:Heap}{A:Lf}{outer:List Env}{s:K8}{H:Hp}(e:vb P w K mg base A outer s H)(C:Addr)(us:K9)(kw:List (Str×Value)) :
  vb P w K mg base (A.under (.builtin "type.__call__" ⟨.ref C::us,kw⟩)) outer s H:=⟨by first | exact e.frames | (simpa[Around.under,Code.envs,Code.isFrame,pushEnvs]using e.frames),e.mod,e.bs,e.bsz,e.funs,e.frf,e.hok,e.bare⟩
section
variable {X:Cx}{pins:K6}{σ:St}{H:Hp}{s s':K8}
theorem Inv.env0(I:Inv X pins σ H s):vb X.prog X.w X.K X.mg X.base X.A X.stack s H:=
 ⟨I.ok.frames,I.ok.mod,I.bs,KD I.ok.bsz I.sz,I.stack,I.stkFree,I.hok,I.bare⟩
theorem Inv.after{Q:VK}{u:Value}(I:Inv X pins σ H s)(h:CE X.stack X.prog X.w H s Q u s'):EP X pins σ Q u s':=by
 obtain⟨v,H',os,bare,un,hok,r,q⟩:=h;obtain⟨hh,g,d,t,os'⟩:=s';obtain rfl:os'=s.os:=os;exact⟨v,H',I.call (h':=hh) (g':=g) (d':=d) (t':=t) (ch:=[]) un hok bare (λb z=>absurd z (by simp)),r,q⟩
end
noncomputable def nV(sp:Sp)(dvs:List V)(E:XK)(t:TA):TE:=λσ H Q=>t σ H λvs H1=>sp (vs++dvs) H1 Q E
noncomputable def rE(C:Addr)(m:Str)(sp:Sp)(dvs:List V)(E:XK)(ta:TE)(t:TA):TE:=λσ H Q=>ta σ H λx H1=>∃a dx fs,x=.ref a/\H1 a=some (.ins C dx fs)/\fs.lookup m=none /\
 t σ H1 λvs H2=>sp (x::(vs++dvs)) H2 Q E
noncomputable def yN(C:Addr)(sp:Sp)(dvs:List V)(E:XK)(t:TA):TE:=λσ H Q=>t σ H λvs H1=>∀x dx,H1 x=none->H1 dx=none->dx≠x ->
 sp (.ref x::(vs++dvs)) (ax (ax H1 dx (.own x)) x (.ins C dx [])) (λv H2=>v=.non/\Q (.ref x) H2) E
noncomputable def cn(K:K5)(fd:Lc)(ps:Le)(ds:K9):Prop:=
 ∀(s:K8) (us:K9),K.In s.heap->(us++ds).length=ps.length->BindsTo s fd ⟨us,[]⟩ (ps.zip (us++ds))
theorem cn.all{K:K5}{fd:Lc}{ps:Le}(h:∀us:List Value,us.length=ps.length->bindArgs fd ⟨us,[]⟩=pure (ps.zip us)):cn K fd ps []:=λs us _ hl=>by
 rw[KH]at hl ⊢;exact .of_eq (h us hl)
noncomputable def cZ(CX:k8)(X:Cx)(E:XK):Prop:=∀(pins:K6) (σ:St) (H:Hp) (s:K8) (e:Value) (s':K8),Inv X pins σ H s->CX X.stack H s E e s'->X.xe e s'
section
variable {X:Cx}{CX:k8}{k:Nat}{f C:Addr}{fd:Lc}{ps:Le}{sp:Sp}{dvs:List V}{ds:K9}{E:XK}{x m:Str}{p pos apos:Pos}{e o:Expr}{es:Li}{ta:TE}{t:TA}
theorem mP{pins:K6}{σ:St}{H:Hp}{s:K8}{Q:VK}{us:K9}{vs:List V}(F:aQ X.prog X.w X.K X.mg X.base CX k f fd ps sp)(hr:dr k X.A)(hb:cn X.K fd ps ds)(hd:bg dvs ds)(hx:cZ CX X E)
  (I:Inv X pins σ H s) (r:bg vs us) (h:sp (vs++dvs) H Q E):wpAny (model X.prog X.w) X.A (call (.ref f) us) (EP X pins σ Q) X.xe s:=by
 have r2:bg (vs++dvs) (us++ds):=r.append hd;have hl:(us++ds).length=ps.length:=by rw[<- r2.length];exact F.len _ _ _ _ h
 refine wpAny_call (codeAny_mono (F.run X.A X.stack s H ⟨us,[]⟩ (us++ds) (vs++dvs) Q E hr I.env0 (hb s us I.kIn hl) r2 h) λr s' hq=>?_);cases r with
 |error e=>exact hx pins σ H s e s' I hq
 |ok fl=>
  cases fl with
  |ret u=>exact I.after hq
  |next=>exact False.elim hq
  |brk=>exact False.elim hq
  |cont=>exact False.elim hq
theorem DY(F:aQ X.prog X.w X.K X.mg X.base CX k f fd ps sp)(hr:dr k X.A)(hg:Gl X x)(hm:X.mg x=some (.ref f))(hk:PySem.W.keepIn X.K (.ref f)=true)(hb:cn X.K fd ps ds)(hd:bg dvs ds)(hx:cZ CX X E)
  (ha:PA X (e::es) t) (hdb:autoParam ((x==("__debug__":Str))=false) zz1._auto_1) (he:autoParam (starEach (e::es) X.env=(false,eval e X.env)::starEach es X.env) zz0._auto_1) (hpl:autoParam ((backTo pos (starEach es X.env)).any (·.1)=false) zz0._auto_1) :
  PE X (.Call (.Name x p) (e::es) [] pos) (nV sp dvs E t):=by
 intro pins s σ H Q I h;refine wpAny_Call_Name_kw (kl I hg hm ?_ hdb);refine PySem.W.callWith_K (h₀:=X.base) I.ok.mod.kin hk (bZ (ha pos pins s σ H _ I h) λus s1 ⟨vs,H1,I1,r,q⟩=>⟨I1.kIn,?_⟩) he hpl;exact mP F hr hb hd hx I1 r q
theorem Ex{pl:Sem Bool}(he:PE X o ta)(c:lW X.K C)(hm:cN X.K C m f)(F:aQ X.prog X.w X.K X.mg X.base CX k f fd ps sp)(hr:dr k X.A)(hb:cn X.K fd ps ds)(hd:bg dvs ds)(hx:cZ CX X E)(ha:PA X (e::es) t)
  (hst:autoParam (starEach (e::es) X.env=(false,eval e X.env)::starEach es X.env) zz0._auto_1) (hpl:autoParam ((backTo pos (starEach es X.env)).any (·.1)=false) zz0._auto_1)
  (ht:autoParam (eval (.Call (.Attribute o m apos) (e::es) [] pos) X.env=(do
   let ov <- eval o X.env
   standAt apos.atName
   let (f,first) <- holding [ov] (getMethod ov m pl)
   callWith pos f first (backTo pos (starEach (e::es) X.env)) (backToKw pos (keywordEach [] X.env)))) zz0._auto_1) :
  PE X (.Call (.Attribute o m apos) (e::es) [] pos) (rE C m sp dvs E ta t):=by
 intro pins s σ H Q I h;refine PySem.W.methodCall_KW (pl:=pl) (bZ (he pins s σ H _ I h) λu s1 ⟨x,H1,I1,rx,a,dx,fs,ex,ea,l,q⟩=>?_) ht;subst ex;obtain rfl:u=Value.ref a:=rx;refine gl I1 ea c hm l ?_;refine PySem.W.callWith_K (first:=[.ref a]) (h₀:=X.base) I.ok.mod.kin hm.kp (bZ (ha pos pins s1 σ H1 _ I1 q) λus s2 ⟨vs,H2,I2,r,q2⟩=>⟨I2.kIn,?_⟩) hst hpl;exact mP (us:=.ref a::us) (vs:=.ref a::vs) F hr hb hd hx I2 (.cons rfl r) q2
theorem BK{pl:Sem Bool}(he:PE X o ta)(c:lW X.K C)(hm:cN X.K C m f)(F:aQ X.prog X.w X.K X.mg X.base CX k f fd ps sp)(hr:dr k X.A)(hb:cn X.K fd ps ds)(hd:bg dvs ds)(hx:cZ CX X E)
  (ht:autoParam (eval (.Call (.Attribute o m apos) [] [] pos) X.env=(do
   let ov <- eval o X.env
   standAt apos.atName
   let (f,first) <- holding [ov] (getMethod ov m pl)
   callWith pos f first (backTo pos (starEach [] X.env)) (backToKw pos (keywordEach [] X.env)))) zz0._auto_1) :
  PE X (.Call (.Attribute o m apos) [] [] pos) (rE C m sp dvs E ta tT):=by
 intro pins s σ H Q I h;refine PySem.W.methodCall_KW (pl:=pl) (bZ (he pins s σ H _ I h) λu s1 ⟨x,H1,I1,rx,a,dx,fs,ex,ea,l,q⟩=>?_) ht;subst ex;obtain rfl:u=Value.ref a:=rx;refine gl I1 ea c hm l ?_;exact PySem.W.callWith_K0 (first:=[.ref a]) I1.kIn hm.kp (mP (us:=[.ref a]) (vs:=[.ref a]) F hr hb hd hx I1 (.cons rfl .nil) q)
structure Mk(K:K5)(C f:Addr):Prop where
 makes:PySem.W.makesIn K C=true
 init:PySem.W.findIn K (.ref C) "__init__"=some (some (.ref f))
 fn:PySem.W.isFn K (.ref f)=true
 kp:PySem.W.keepIn K (.ref C)=true
theorem CM{pins:K6}{σ:St}{H:Hp}{s:K8}{Q:VK}{us:K9}{vs:List V}(M:Mk X.K C f)(F:aQ X.prog X.w X.K X.mg X.base CX k f fd ps sp)(hr:dr (k+1) X.A)(hb:cn X.K fd ps ds)(hd:bg dvs ds)
  (hx:cZ CX X E) (I:Inv X pins σ H s) (r:bg vs us)
  (h:∀x dx,H x=none->H dx=none->dx≠x->sp (.ref x::(vs++dvs)) (ax (ax H dx (.own x)) x (.ins C dx [])) (λv H2=>v=.non/\Q (.ref x) H2) E) :
  wpAny (model X.prog X.w) X.A (call (.ref C) us) (EP X pins σ Q) X.xe s:=by
 have hq:=h (s.heap.objs.size+1) s.heap.objs.size (I.hok.fresh (Nat.le_succ _)) (I.hok.fresh (Kv _)) (Kr (KG _));have I2:=Inv.made (C:=C) I;have r2:bg (V.ref (s.heap.objs.size+1)::(vs++dvs)) (Value.ref (s.heap.objs.size+1)::(us++ds)):=.cons rfl (r.append hd);have hl:(Value.ref (s.heap.objs.size+1)::us++ds).length=ps.length:=by
  have e:=r2.length;rw[F.len _ _ _ _ hq]at e;exact e.symm
 refine wpAny_call (Cs (f:=f) I.kIn M.makes M.init (beq_iff_eq.mp M.fn) (codeAny_mono (F.run _ X.stack _ _ ⟨Value.ref (s.heap.objs.size+1)::us,[]⟩ (Value.ref (s.heap.objs.size+1)::(us++ds)) _ _ E (hr.make C us [])
  (I2.env0.make C us []) (hb _ (Value.ref (s.heap.objs.size+1)::us) I2.kIn hl) r2 hq) λr s' hq'=>?_))
 cases r with
 |error e=>exact hx pins σ _ _ e s' I2 hq'
 |ok fl=>
  cases fl with
  |ret u=>
   obtain⟨v,H',I3,rv,ev,q3⟩:=I2.after hq';subst ev;exact⟨rv,⟨V.ref (s.heap.objs.size+1),H',I3,rfl,q3⟩⟩
  |next=>exact False.elim hq'
  |brk=>exact False.elim hq'
  |cont=>exact False.elim hq'
theorem Ea(M:Mk X.K C f)(F:aQ X.prog X.w X.K X.mg X.base CX k f fd ps sp)(hr:dr (k+1) X.A)(hg:Gl X x)(hm:X.mg x=some (.ref C))(hb:cn X.K fd ps ds)(hd:bg dvs ds)(hx:cZ CX X E)
  (ha:PA X (e::es) t) (hdb:autoParam ((x==("__debug__":Str))=false) zz1._auto_1) (he:autoParam (starEach (e::es) X.env=(false,eval e X.env)::starEach es X.env) zz0._auto_1) (hpl:autoParam ((backTo pos (starEach es X.env)).any (·.1)=false) zz0._auto_1) :
  PE X (.Call (.Name x p) (e::es) [] pos) (yN C sp dvs E t):=by
 intro pins s σ H Q I h;refine wpAny_Call_Name_kw (kl I hg hm ?_ hdb);refine PySem.W.callWith_K (h₀:=X.base) I.ok.mod.kin M.kp (bZ (ha pos pins s σ H _ I h) λus s1 ⟨vs,H1,I1,r,q⟩=>⟨I1.kIn,?_⟩) he hpl;exact CM M F hr hb hd hx I1 r q
end
section
variable {X:Cx}{CX:k8}{k:Nat}{f C:Addr}{fd:Lc}{ps ks:Le}{sp:Sp}{E:XK}{x m:Str}{p pos apos kpos:Pos}{e o:Expr}{es:Li}{kws:List Keyword}{te ta:TE}{t tk:TA}{nm:Option Str}
structure G6(K:K5)(fd:Lc)(ps ks:Le)(g:List Value->List Value->List Value)(gV:List V->List V->List V):Prop where
 to:∀(s:K8) (us ws:K9),K.In s.heap->(g us ws).length=ps.length->BindsTo s fd ⟨us,ks.zip ws⟩ (ps.zip (g us ws))
 rel:∀{vs:List V} {us:K9} {zs:List V} {ws:K9},bg vs us->bg zs ws->bg (gV vs zs) (g us ws)
variable {g:List Value->List Value->List Value}{gV:List V->List V->List V}
end
structure av(N P:Le)(sc:Scope):Prop where
 kind:sc.kind=.function
 co:sc.isCoroutine=false
 gen:sc.isGenerator=false
 nd:N.Nodup
 pre:N.take P.length=P
 par:∀x∈P,sc.names.lookup x=some .local\/sc.names.lookup x=some .cell
 nofree:∀y∈sc.names,y.2≠.free
theorem rQ{kindOf:Str->Option NameKind}{x:Str}:∀{binds:List (Str×Value)} {m:Lb},(∀v,(x,v)∉binds)->bindL kindOf binds m x=m x
 | [],_,_=>rfl
 | (n,v)::r,m,h=>by
  unfold bindL;rw[rQ λw hw=>h w (Kn _ hw)]
  split
  ·have:x≠n:=by rintro rfl;exact h v List.mem_cons_self
   simp[this]
  ·rfl
theorem sf{kindOf:Str->Option NameKind}{x:Str}:∀{binds:List (Str×Value)} {m:Lb},(∀v,(x,v)∉binds)->bindC kindOf binds m x=m x
 | [],_,_=>rfl
 | (n,v)::r,m,h=>by
  unfold bindC;rw[sf λw hw=>h w (Kn _ hw)]
  split
  ·rfl
  ·have:x≠n:=by rintro rfl;exact h v List.mem_cons_self
   simp[this]
theorem rA{kindOf:Str->Option NameKind}{x:Str}{v:Value}:∀{P:Le} {vs:K9} {i:Nat} {m:Lb},P.Nodup->P[i]?=some x->vs[i]?=some v->kindOf x=some .local ->
  bindL kindOf (P.zip vs) m x=some v
 | [],_,_,_,_,h,_,_=>by simp at h
 |_::_,[],_,_,_,_,h,_=>by simp at h
 |p::P,w::vs,0,m,nd,h1,h2,hk=>by
  simp at h1 h2;subst h1;subst h2
  show bindL kindOf ((p,w)::P.zip vs) m p=_;unfold bindL;rw[rQ λv hv=>(List.nodup_cons.mp nd).1 (List.of_mem_zip hv).1,if_pos hk];simp
 |p::P,w::vs,i+1,m,nd,h1,h2,hk=>by
  show bindL kindOf ((p,w)::P.zip vs) m x=_;unfold bindL;exact rA (i:=i) (List.nodup_cons.mp nd).2 (by simpa using h1) (by simpa using h2) hk
theorem r8{kindOf:Str->Option NameKind}{x:Str}{v:Value}:∀{P:Le} {vs:K9} {i:Nat} {m:Lb},P.Nodup->P[i]?=some x->vs[i]?=some v->kindOf x≠some .local ->
  bindC kindOf (P.zip vs) m x=some v
 | [],_,_,_,_,h,_,_=>by simp at h
 |_::_,[],_,_,_,_,h,_=>by simp at h
 |p::P,w::vs,0,m,nd,h1,h2,hk=>by
  simp at h1 h2;subst h1;subst h2
  show bindC kindOf ((p,w)::P.zip vs) m p=_;unfold bindC;rw[sf λv hv=>(List.nodup_cons.mp nd).1 (List.of_mem_zip hv).1,if_neg hk];simp
 |p::P,w::vs,i+1,m,nd,h1,h2,hk=>by
  show bindC kindOf ((p,w)::P.zip vs) m x=_;unfold bindC;exact r8 (i:=i) (List.nodup_cons.mp nd).2 (by simpa using h1) (by simpa using h2) hk
noncomputable def start(N:Le)(vs:List V):St:=vs.map some++List.replicate (N.length-vs.length) none
noncomputable def gy(CX:k8)(P:Ld)(w:Lg)(K:K5)(mg:Lb)(base:Heap)(N:Le)(qual:Str)(scope:Scope)(f:Addr)(cd:Value)(A:Lf)(outer:List Env)(s:K8)(H:Hp)(E:XK):Cx where
 prog:=P
 w:=w
 K:=K
 mg:=mg
 base:=base
 A:=A.deeper (envOfC qual scope s.heap.objs.size f cd)
 N:=N
 s₀:=s
 H₀:=H
 env:=envOfC qual scope s.heap.objs.size f cd
 outer:=outer
 stack:=envOfC qual scope s.heap.objs.size f cd::outer
 ex:=[]
 calm:=true
 fn:=λ_=>true
 pn:=[]
 xe:=λe s'=>wpAny (model P w) (A.deeper (envOfC qual scope s.heap.objs.size f cd)) (leaving (envOfC qual scope s.heap.objs.size f cd) e) (λ_ s''=>CX outer H s E e s'') (λe' s''=>CX outer H s E e' s'') s'
theorem v8{sc:Scope}{n:Nat}{x:Str}(h:sc.names.lookup x=some .cell):∃c,(cellsFrom n sc.names []).lookup x=some c:=by
 have q:=PySem.W.cellsFrom_some sc.names n [] (.inl h);exact Option.isSome_iff_exists.mp q
theorem zd{CX:k8}{P:Ld}{w:Lg}{K:K5}{mg:Lb}{base:Heap}{N ps:Le}{qual:Str}{scope:Scope}{f:Addr}{cd:Value}{A:Lf}{outer:List Env}{s s1:K8}{H:Hp}{E:XK}{us:K9}{vs:List V}
  (S:av N ps scope) (hd:A.handled=none) (e0:vb P w K mg base A outer s H) (hl:vs.length=ps.length) (r:bg vs us)
  (x:InCallC s s.heap.objs.size (bindL (envOfC qual scope s.heap.objs.size f cd).kindOf (ps.zip us) λ_=>none) (cellsFrom (s.heap.objs.size+1) scope.names []) (bindC (envOfC qual scope s.heap.objs.size f cd).kindOf (ps.zip us) λ_=>none) s1) :
  Inv (gy CX P w K mg base N qual scope f cd A outer s H E) [] (start N vs) H s1:=by
 have hpl:ps.length<=N.length:=by have:=congrArg List.length S.pre;rw[KM]at this;omega
 obtain⟨h1,tk,rfl,hk⟩:=x.done;have noA:∀b:Addr,b∉(gy CX P w K mg base N qual scope f cd A outer s H E).ex:=λb z=>absurd (show b∈([]:List Addr) from z) (by simp);refine⟨⟨e0.mod,S.kind,rfl,rfl,Kv _,λy z c h1 h2=>?_,λy hy=>?_,λy c _ h=>?_,λ_=>hd,Around.frames_deeper e0.frames,.inr ⟨rfl,rfl⟩,λb z=>absurd z (noA b),e0.bs,e0.bsz,λb _ _=>noA b,λb z=>absurd z (noA b),e0.funs,e0.frf⟩,
  rfl,e0.bare,Un.kept hk,⟨_,x.toInCall.ns,λi y v h1 h2 h3=>?_⟩,λy c h=>⟨_,x.cell y c h⟩,e0.hok.fresh (Kv _),λy c h=>?_,λp hp=>absurd (show p∈([]:List (Addr×Obj)) from hp) (by simp),e0.hok.kept hk,?_⟩
 ·exact name_of_addr x.apart (PySem.mem_of_lookup h1) (PySem.mem_of_lookup h2)
 ·have hy:scope.names.lookup y=some .cell\/scope.names.lookup y=some .free:=hy
  rcases hy with hy | hy
  ·exact v8 hy
  ·exact absurd rfl (S.nofree _ (PySem.mem_of_lookup hy))
 ·exact Nat.le_of_lt (x.above y c (PySem.mem_of_lookup h))
 ·have hi:i<vs.length:=by
   unfold start at h2
   by_cases hi:i<vs.length
   ·exact hi
   ·rw[Ks (by simpa using hi)]at h2
    rw[List.getElem?_replicate]at h2
    split at h2<;>cases h2
  have ha:vs[i]?=some v:=by
   unfold start at h2;rw[Kt (by simpa using hi),Ka]at h2;cases e:vs[i]? with
   |none=>rw[e]at h2;cases h2
   |some a=>rw[e]at h2;cases h2;rfl
  obtain⟨u,hu,rv⟩:=r.get ha;have hp:ps[i]?=some y:=by
   rw[<- S.pre,List.getElem?_take_of_lt ⋯];exact h1
  have ndP:ps.Nodup:=by rw[<- S.pre];exact S.nd.sublist (List.take_sublist _ _)
  refine⟨u,rv,?_⟩;rcases S.par y (Kb hp) with k | k
  ·exact .inl ⟨k,rA ndP hp hu k⟩
  ·obtain⟨c,e⟩:=v8 (n:=s.heap.objs.size+1) k
   refine .inr ⟨.inl k,c,e,?_⟩;have q:=x.cell y c e;rw[r8 ndP hp hu (by show scope.names.lookup y≠_;rw[k];decide)]at q;exact q
 ·exact e0.hok.fresh (Nat.le_of_lt (x.above y c (PySem.mem_of_lookup h)))
 ·unfold start
  show _=N.length;rw[Ku,J_,List.length_replicate];omega
theorem ER{CX:k8}{P:Ld}{w:Lg}{K:K5}{mg:Lb}{base:Heap}{k:Nat}{f:Addr}{name qual:Str}{params:Arguments}{body:List Stmt}{scope:Scope}{dV kV doc pm cdv ct oc:Value}{an od:Lh}
  {osl:Array (Option Value)} {N ps:Le} {sp:Sp} (lk:K.lookup f=some ⟨oc,od,.func (PySem.W.fnOf name qual params body scope dV kV doc pm an cdv ct),osl⟩) (hcd:PySem.W.codeIn K cdv qual=true) (S:av N ps scope)
  (len:∀vs H Q E,sp vs H Q E->vs.length=ps.length)
  (hbody:∀(A:Lf) (outer:List Env) (s:K8) (H:Hp) (vs:List V) (Q:VK) (E:XK),dr k (A.deeper (envOfC qual scope s.heap.objs.size f cdv))->sp vs H Q E ->
   ∃t,wx (gy CX P w K mg base N qual scope f cdv A outer s H E) body t/\t {nx:=λ_ H'=>Q .non H',rt:=Q} (start N vs) H) :
  aQ P w K mg base CX (k+1) f (PySem.W.fnOf name qual params body scope dV kV doc pm an cdv ct) ps sp:=by
 refine⟨len,λA outer s H args us vs Q E hr e0 hb r hsp=>?_⟩;have hl:=len _ _ _ _ hsp;have KX:K.In s.heap:=e0.mod.kin.keeps λb o e=>(e0.bs b o e).1;have lim:s.heap.NoLimit:=e0.mod.nolimit.keeps λb o e=>(e0.bs b o e).1;have hkind:∀y∈ps.zip us,scope.names.lookup y.1=some .local\/(scope.names.lookup y.1=some .cell/\((cellsFrom (s.heap.objs.size+1) scope.names []).lookup y.1).isSome=true):=λ⟨n,v⟩ hy=>by
  rcases S.par n (List.of_mem_zip hy).1 with q | q
  ·exact .inl q
  ·exact .inr ⟨q,PySem.W.cellsFrom_some _ _ _ (.inl q)⟩
 refine codeAny_call_function hr.depth (KX _ _ lk) rfl S.co S.gen rfl (PySem.W.codeRec_of KX hcd) (hb _ _ _ _ ?_);refine wpAny_newFunctionEnv_cells S.kind hkind λenv he s1 x=>?_;subst he;refine⟨lim.keeps x.toInCall.keep,codeAny_func ?_⟩;obtain⟨t,ht,hq⟩:=hbody A outer s H vs Q E (hr.deeper _) hsp;have I:Inv (gy CX P w K mg base N qual scope f cdv A outer s H E) [] (start N vs) H s1:=zd S hr.hd e0 hl r x;refine wpAny_mono (ht [] s1 (start N vs) H _ I hq) (λfl s' hs=>?_) λe s' hs=>hs;have fin:∀{σ':St} {H':Hp} {v:V} {u:Value},Inv (gy CX P w K mg base N qual scope f cdv A outer s H E) [] σ' H' s'->bq v u->Q v H'->CE outer P w H s Q u s':=
  fun{σ' H' v u} J rv q=>⟨v,H',J.os,J.bare,J.base,J.hok,rv,q⟩
 cases fl with
 |ret u=>
  obtain⟨v,σ',H',J,rv,q⟩:=hs;exact fin J rv q
 |next=>
  obtain⟨σ',H',J,q⟩:=hs;exact fin (v:=V.non) (u:=Value.none) J rfl q
 |brk=>
  obtain⟨_,_,_,q⟩:=hs;exact False.elim q
 |cont=>
  obtain⟨_,_,_,q⟩:=hs;exact False.elim q
section
variable {X:Cx}{x:Str}{p pos:Pos}{e:Expr}{es:Li}{t:TA}{id T:String}{r:List V->Hp->VK->Prop}
noncomputable def GH(r:List V->Hp->VK->Prop)(t:TA):TE:=λσ H Q=>t σ H λvs H1=>r vs H1 Q
theorem aA(hc:gI X (.builtin id) r)(hg:Gl X x)(hm:X.mg x=none)(hv:bootBuiltins x=some (.builtin id))(ha:PA X (e::es) t)(hn:autoParam (x≠"__name__") zz1._auto_1)(hdb:autoParam ((x==("__debug__":Str))=false) zz1._auto_1)
  (he:autoParam (starEach (e::es) X.env=(false,eval e X.env)::starEach es X.env) zz0._auto_1) (hpl:autoParam ((backTo pos (starEach es X.env)).any (·.1)=false) zz0._auto_1):PE X (.Call (.Name x p) (e::es) [] pos) (GH r t):=by
 intro pins s σ H Q I h;refine wpAny_Call_Name_kw (e_ I hg hm hv ?_ hn hdb);exact PyProof.Rows.callWith_builtin1 (bZ (ha pos pins s σ H _ I h) λus s1 ⟨vs,H1,I1,r1,q1⟩=>hc pins s1 σ H1 vs us Q I1 r1 q1) he hpl
theorem d9(hc:gI X (.type T) r)(hg:Gl X x)(hm:X.mg x=none)(hv:bootBuiltins x=some (.type T))(ha:PA X (e::es) t)(hn:autoParam (x≠"__name__") zz1._auto_1)(hdb:autoParam ((x==("__debug__":Str))=false) zz1._auto_1)
  (he:autoParam (starEach (e::es) X.env=(false,eval e X.env)::starEach es X.env) zz0._auto_1) (hpl:autoParam ((backTo pos (starEach es X.env)).any (·.1)=false) zz0._auto_1):PE X (.Call (.Name x p) (e::es) [] pos) (GH r t):=by
 intro pins s σ H Q I h;refine wpAny_Call_Name_kw (e_ I hg hm hv ?_ hn hdb);exact PyProof.Rows.callWith_type1 (bZ (ha pos pins s σ H _ I h) λus s1 ⟨vs,H1,I1,r1,q1⟩=>hc pins s1 σ H1 vs us Q I1 r1 q1) he hpl
end
end L2
namespace HT
open PySem PyProof.Rows
section
open PySem.SeqAt
open PySem.AutoSeq1 (wpAny_loadPart')
open PySem.MeetsSeq PySem.MeetsSeq2 PySem.MeetsSeq3
end
section
variable {prog:Ld}{w:Lg}{A:Lf}{E:K4}{s:K8}
theorem cat_tup{t b:Addr}{vs ws:K9}{Q:K4}(ht:IsTup s.heap t vs.toArray)(hb:IsTup s.heap b ws.toArray)(hv:vs≠[])
  (h1:ws=[]->Q (.ref t) s) (h2:ws≠[]->Q (.ref s.heap.objs.size) {s with heap:=s.heap.push {cls:=.type "tuple",data:=.seq (vs++ws).toArray} })
  (hsz:vs.length+ws.length<=sizeLine):wpAny (model prog w) A (binaryOp .Add (.ref t) (.ref b)) Q E s:=by
 obtain⟨⟨cls,dd,data,sl⟩,ho,hc,n,hd⟩:=id ht;obtain⟨⟨cls2,dd2,data2,sl2⟩,ho2,hc2,n2,hd2⟩:=id hb;simp only at hc hd hc2 hd2;subst hc hd hc2 hd2;have e:vs.toArray++ws.toArray=(vs++ws).toArray:=by simp
 by_cases hw:ws=[]
 ·exact concat_meets ⟨_,ho,rfl⟩ ⟨_,ho2,rfl⟩ noFill_tuple_add seq_tuple_add PySem.F.slot_tuple_add PySem.F.entry_tuple_add (PySem.F.args_tuple_add_2 _ _)
   (tuple_addW1 t b vs.toArray ws.toArray n n2 dd dd2 sl sl2 (by simpa using hv) (by simp[hw])) ⟨ho,ho2,h1 hw⟩
 ·refine concat_meets ⟨_,ho,rfl⟩ ⟨_,ho2,rfl⟩ noFill_tuple_add seq_tuple_add PySem.F.slot_tuple_add PySem.F.entry_tuple_add (PySem.F.args_tuple_add_2 _ _)
   (tuple_addW2 t b vs.toArray ws.toArray n n2 dd dd2 sl sl2 (by simpa using hv) (by simpa using hw) (by rw[Ke,Ke];exact hsz)) ⟨ho,ho2,?_⟩
  rw[e];exact h2 hw
noncomputable def sIx(n d:Nat):Option Int->Nat
 |none=>d
 |some v=>if v<0 then(v+(n:Int)).toNat else min v.toNat n
theorem sIx_none(n d:Nat):sIx n d none=d:=rfl
theorem sIx_nat(n d k:Nat):sIx n d (some (k:Int))=min k n:=by
 show(if(k:Int)<0 then((k:Int)+(n:Int)).toNat else min (k:Int).toNat n)=min k n;rw[if_neg ⋯,Kg]
theorem sIx_le(n d:Nat)(hd:d<=n)(o:Option Int):sIx n d o<=n:=by
 cases o with
 |none=>exact hd
 |some v=>
  show(if v<0 then(v+(n:Int)).toNat else min v.toNat n)<=n
  by_cases hv:v<0
  ·rw[if_pos hv];omega
  ·rw[if_neg hv];exact Nat.min_le_right _ _
theorem yB(v:Int)(n d:Nat):(if v<0 then max (v+(n:Int)) 0 else min v (n:Int))=((sIx n d (some v):Nat):Int):=by
 show(if v<0 then max (v+(n:Int)) 0 else min v (n:Int))=(((if v<0 then(v+(n:Int)).toNat else min v.toNat n):Nat):Int)
 by_cases hv:v<0
 ·simp only[if_pos hv];omega
 ·simp only[if_neg hv];omega
theorem w4(lo hi:Option Int)(n:Nat):Builtin.Slice.sliceAdjust lo hi 1 (n:Int)=(((sIx n 0 lo:Nat):Int),((sIx n n hi:Nat):Int)):=by
 have h1:¬ ((1:Int)<0):=by omega
 unfold Builtin.Slice.sliceAdjust;simp only[h1,if_false];refine Prod.ext ?_ ?_
 ·cases lo with
  |none=>rfl
  |some v=>exact yB v n 0
 ·cases hi with
  |none=>rfl
  |some v=>exact yB v n n
theorem yg(i j:Nat):Builtin.Slice.slicePlaces (i:Int) (j:Int) 1=j-i:=by
 unfold Builtin.Slice.slicePlaces;have h1:(1:Int)>0:=by omega
 simp only[h1,if_true,Int.ediv_one]
 split<;>omega
theorem qt{v:Value}{o:Option Int}{Q:Option Int->Shared->Prop}(p:IsPart v o)(h:Q o s):wpAny (model prog w) A (Builtin.Slice.slicePartIndex v) Q E s:=by
 cases p with
 |none=>exact slicePart_none h
 |int i t=>exact slicePart_int h
theorem io{sl:Addr}{vl vu:Value}{lo hi:Option Int}{n:Nat}{Q:Int×Int×Nat->Shared->Prop}(hs:s.heap.IsSliceOf sl vl vu .none)(pl:IsPart vl lo)(pu:IsPart vu hi)
  (h:Q (((sIx n 0 lo:Nat):Int),1,sIx n n hi-sIx n 0 lo) s):wpAny (model prog w) A (Builtin.Slice.sliceApplied (.ref sl) (pure (n:Int))) Q E s:=by
 obtain⟨os,hos,hcs,hds⟩:=id hs;unfold Builtin.Slice.sliceApplied Builtin.Slice.sliceFields;refine wpAny_bind (wpAny_bind (wpAny_field hos hds (x:=vl) rfl (wpAny_bind (wpAny_field hos hds (x:=vu) rfl (wpAny_bind (wpAny_field hos hds (x:=.none) rfl (wpAny_pure ?_)))))));refine wpAny_bind (slicePart_none ?_);show wpAny _ _ (if((1:Int)==0)=true then _ else _) _ _ s;rw[if_neg nofun];refine wpAny_bind (qt pl (wpAny_bind (qt pu (wpAny_bind (wpAny_pure ?_)))));show wpAny _ _ (match Builtin.Slice.sliceAdjust lo hi 1 (n:Int) with | (lo,hi)=>pure (lo,(1:Int),Builtin.Slice.slicePlaces lo hi 1)) _ _ s;rw[w4 lo hi n];show wpAny _ _ (pure (((sIx n 0 lo:Nat):Int),(1:Int),Builtin.Slice.slicePlaces ((sIx n 0 lo:Nat):Int) ((sIx n n hi:Nat):Int) 1)) _ _ s;rw[yg];exact wpAny_pure h
theorem B_(xs:Array Value)(i k:Nat):((List.range k).filterMap fun(m:Nat)=>xs[((i:Int)+(m:Int)*1).toNat]?).toArray=((xs.toList.drop i).take k).toArray:=by
 have e:(fun(m:Nat)=>xs[((i:Int)+(m:Int)*1).toNat]?)=λm=>xs[i+m]?:=by
  funext m
  have:((i:Int)+(m:Int)*1).toNat=i+m:=by omega
  rw[this]
 rw[e];have:=pick_run xs i k;rw[List.filterMap_map]at this;have e2:((λx=>xs[x]?)∘λx=>i+x)=λm=>xs[i+m]?:=rfl;rw[e2]at this;rw[this]
theorem getItem_tuple_cut{t sl:Addr}{items:Array Value}{vl vu:Value}{lo hi:Option Int}{Q:K4}(ht:IsTup s.heap t items)(hs:s.heap.IsSliceOf sl vl vu .none)(pl:IsPart vl lo)(pu:IsPart vu hi)
  (hw:¬ (sIx items.size 0 lo=0/\sIx items.size items.size hi=items.size))
  (h:Q (.ref s.heap.objs.size) {s with heap:=s.heap.push {cls:=.type "tuple",data:=.seq ((items.toList.drop (sIx items.size 0 lo)).take (sIx items.size items.size hi-sIx items.size 0 lo)).toArray} })
  (hsz:items.size<=sizeLine):wpAny (model prog w) A (getItem (.ref t) (.ref sl)) Q E s:=by
 have htake:sizeOk (.seq ((items.toList.drop (sIx items.size 0 lo)).take (sIx items.size items.size hi-sIx items.size 0 lo)).toArray):=by
  show((items.toList.drop (sIx items.size 0 lo)).take (sIx items.size items.size hi-sIx items.size 0 lo)).toArray.size<=sizeLine;rw[Ke,KM,KN,Array.length_toList];omega
 have hj:sIx items.size items.size hi<=items.size:=sIx_le _ _ (Kv _) hi;obtain⟨os,hos,hcs,hds⟩:=id hs;have hTs:s.TypeIs (.ref sl) "slice":=⟨os,hos,hcs⟩;unfold getItem
 try with_reducible refine wpAny_holding ?_
 first | refine wpAny_bind (wpAny_pure ?_) | skip
 refine wpAny_bind (wpAny_sequenceKey ht.typeIs nofun ?_);refine wpAny_bind (wpAny_callSpecial?_slot (name:=Str.ofString "__getitem__") ht.typeIs PyProof.Rows.slot_tuple_getitem
  (wpAny_call_entry PyProof.Rows.slot_tuple_getitem ht.typeIs entry_tuple_getitem ?_ (args_tuple_getitem _ _)))
 show wpAny _ _ (Builtin.Tuple.tupleItemsOf (.ref t) >>= _) _ _ s;refine wpAny_bind (tupleItemsOf_ ht ?_);refine wpAny_bind (wpAny_typeOf hTs ?_);rw[if_pos nofun];refine wpAny_bind (io hs pl pu ?_);have hno:¬ ((((sIx items.size 0 lo:Nat):Int)==0&&(1:Int)==1&&(sIx items.size items.size hi-sIx items.size 0 lo)==items.size)=true):=by
  intro q;rw[Bool.and_eq_true,Bool.and_eq_true]at q;have q1:((sIx items.size 0 lo:Nat):Int)=0:=eq_of_beq q.1.1;have q2:sIx items.size items.size hi-sIx items.size 0 lo=items.size:=eq_of_beq q.2;exact hw ⟨⋯,⋯⟩
 show wpAny _ _ (if(((sIx items.size 0 lo:Nat):Int)==0&&(1:Int)==1&&(sIx items.size items.size hi-sIx items.size 0 lo)==items.size)=true then _ else _) _ _ s;rw[if_neg hno,B_]
 first
  |exact wpAny_bind (m:=Builtin.Tuple.tupleExact _) (wpAny_newObj_type (wpAny_pure ⟨_,rfl,wpAny_pure h⟩) htake)
  |exact wpAny_bind (m:=Builtin.Tuple.tupleExact _) (wpAny_newObj_type (wpAny_bind (wpAny_pure (wpAny_pure ⟨_,rfl,wpAny_pure h⟩))) htake)
  |exact wpAny_bind (wpAny_bind (m:=Builtin.Tuple.tupleExact _) (wpAny_newObj_type (wpAny_pure (wpAny_pure ⟨_,rfl,wpAny_pure h⟩)) htake))
  |exact wpAny_bind (wpAny_bind (m:=Builtin.Tuple.tupleExact _) (wpAny_newObj_type (wpAny_pure ⟨_,rfl,wpAny_pure h⟩) htake))
end
end HT
namespace L2
open PySem PySem.Spec PyProof.Rows
noncomputable abbrev TO:=St->Hp->(Option Int->Hp->Prop)->Prop
noncomputable def PO(X:Cx)(e:Option Expr)(t:TO):Prop:=
 ∀(pins:K6) (s:K8) (σ:St) (H:Hp) (Q:Option Int->Hp->Prop),Inv X pins σ H s->t σ H Q ->
  wpAny (model X.prog X.w) X.A (evalPart e X.env) (λu s'=>∃o H',Inv X pins σ H' s'/\IsPart u o/\Q o H') X.xe s
noncomputable def sM:TO:=λ_ H Q=>Q none H
noncomputable def BP(t:TE):TO:=λσ H Q=>t σ H λx H1=>∃i,x=.int i/\Q (some i) H1
section
variable {X:Cx}{e:Expr}{te:TE}{lo hi:Option Expr}{tl th:TO}{pos p2:Pos}
theorem gE:PO X none sM:=by
 intro pins s σ H Q I h;rw[evalPart_none];exact wpAny_pure ⟨none,H,I,.none,h⟩
theorem fu(h:PE X e te):PO X (some e) (BP te):=by
 intro pins s σ H Q I hw;rw[evalPart_some];refine bZ (h pins s σ H _ I hw) λu s1 ⟨x,H1,I1,r1,q1⟩=>?_;obtain⟨i,rfl,q⟩:=q1;obtain⟨t,rfl⟩:=r1;exact⟨some i,H1,I1,.int i t,q⟩
noncomputable def GD(X:Cx)(r:V->Option Int->Option Int->Hp->VK->Prop):Prop:=
 ∀(pins:K6) (s:K8) (σ:St) (H:Hp) (x:V) (v vl vu:Value) (lo hi:Option Int) (sl:Addr) (Q:VK),Inv X pins σ H s->bq x v->s.heap.IsSliceOf sl vl vu .none->IsPart vl lo->IsPart vu hi->r x lo hi H Q ->
  ∃T id,typeLookup (.type T) "__getitem__"=pure (some (.builtin id))/\s.TypeIs v T/\wpAny (model X.prog X.w) X.A (getItem v (.ref sl)) (EP X pins σ Q) X.xe s
noncomputable def GQ(r:V->Option Int->Option Int->Hp->VK->Prop)(te:TE)(tl th:TO):TE:=λσ H Q=>te σ H λx H1=>tl σ H1 λl H2=>th σ H2 λu H3=>r x l u H3 Q
theorem eG{r:V->Option Int->Option Int->Hp->VK->Prop}(hr:GD X r)(he:PE X e te)(hl:PO X lo tl)(hu:PO X hi th):PE X (.Subscript e (.Slice lo hi none p2) pos) (GQ r te tl th):=by
 intro pins s σ H Q I h;refine Subscript_ (bZ (he pins s σ H _ I h) λv s1 ⟨x,H1,I1,r1,q1⟩=>?_);refine wpAny_Slice (bZ (hl pins s1 σ H1 _ I1 q1) λvl s2 ⟨l,H2,I2,pl,q2⟩=>bZ (hu pins s2 σ H2 _ I2 q2) λvu s3 ⟨u,H3,I3,pu,q3⟩=>?_);rw[evalPart_none];refine wpAny_pure ?_;have I4:Inv X pins σ H3 {s3 with heap:=s3.heap.push {cls:=.type "slice",data:=.fields #[vl,vu,.none]} }:=I3.kept (t':=s3.toks) λb ob q=>J9 _ q;obtain⟨T,id,hT,ht,hg⟩:=hr pins {s3 with heap:=s3.heap.push {cls:=.type "slice",data:=.fields #[vl,vu,.none]} } σ H3 x v vl vu l u s3.heap.objs.size Q I4 r1 (Heap.IsSliceOf.new ..) pl pu q3;show wpAny (model X.prog X.w) X.A (subscriptTail e (.Slice lo hi none p2) v (.ref s3.heap.objs.size)) (EP X pins σ Q) X.xe {s3 with heap:=s3.heap.push {cls:=.type "slice",data:=.fields #[vl,vu,.none]} };exact tail_any (ops:=[.ref s3.heap.objs.size,v]) ht hT hg (by with_unfolding_all rfl)
noncomputable def m3(xs:List V)(lo hi:Option Int):List V:=(xs.drop (HT.sIx xs.length 0 lo)).take (HT.sIx xs.length xs.length hi-HT.sIx xs.length 0 lo)
theorem jT(xs:List V)(lo hi:Option Int):(m3 xs lo hi).length<=xs.length:=by
 unfold m3;rw[KM,KN];omega
noncomputable def FX(K:K5):V->Option Int->Option Int->Hp->VK->Prop:=λx lo hi H Q=>∃a xs,x=.ref a/\bh K H a xs /\
 ¬ (HT.sIx xs.length 0 lo=0/\HT.sIx xs.length xs.length hi=xs.length)/\∀p,H p=none->Q (.ref p) (ax H p (.tup (m3 xs lo hi)))
theorem ni:GD X (FX X.K):=by
 intro pins s σ H x v vl vu lo hi sl Q I rx hs pl pu h;obtain⟨a,xs,rfl,hx,hw,q⟩:=h;cases rx;obtain⟨its,r,ht,hz⟩:=I.tuple hx;have hlen:its.toArray.size=xs.length:=by rw[Ke];exact r.length.symm
 refine⟨"tuple",_,PyProof.Rows.slot_tuple_getitem.lookup,ht.typeIs,?_⟩;refine HT.getItem_tuple_cut ht hs pl pu (by rw[hlen];exact hw) ?_ (by rw[hlen];exact hz);rw[hlen];refine⟨.ref s.heap.objs.size,_,I.laid (t':=s.toks) (o:=.tup (m3 xs lo hi)) (λb ob q=>J9 _ q) (Kv _) ?_,rfl,q _ (I.hok.fresh (Kv _))⟩;exact⟨KD (jT xs lo hi) hz,_,(r.drop (HT.sIx xs.length 0 lo)).take (HT.sIx xs.length xs.length hi-HT.sIx xs.length 0 lo),IsTup.new _ _⟩
noncomputable def DE(K:K5):R2:=λx y H Q=>∃a b xs ys,x=.ref a/\y=.ref b/\bh K H a xs/\bh K H b ys/\xs≠[]/\xs.length+ys.length<=sizeLine /\
 (ys=[]->Q (.ref a) H)/\(ys≠[]->∀p,H p=none->Q (.ref p) (ax H p (.tup (xs++ys))))
theorem bg.nil_iff{xs:List V}{us:K9}(r:bg xs us):us=[]↔xs=[]:=by
 cases r with
 |nil=>simp
 |cons _ _=>simp
theorem dH:bd X (binaryOp .Add) (DE X.K):=by
 intro pins s σ H x y v u Q I rx ry h;obtain⟨a,b,xs,ys,rfl,rfl,ha,hb,hx,hz,q1,q2⟩:=h;cases rx;cases ry;obtain⟨its,r1,p1,_⟩:=I.tuple ha;obtain⟨its2,r2,p2,_⟩:=I.tuple hb;refine HT.cat_tup p1 p2 (λz=>hx (r1.nil_iff.mp z)) (λz=>⟨.ref a,H,I,rfl,q1 (r2.nil_iff.mp z)⟩) (λz=>?_) (by rw[<- r1.length,<- r2.length];exact hz);refine⟨.ref s.heap.objs.size,_,I.laid (t':=s.toks) (o:=.tup (xs++ys)) (λb ob q=>J9 _ q) (Kv _) ?_,rfl,q2 (λw=>z (r2.nil_iff.mpr w)) _ (I.hok.fresh (Kv _))⟩;exact⟨by rw[Ku];exact hz,_,r1.append r2,IsTup.new _ _⟩
end
noncomputable def F5(n:Nat)(i:Int):Option Nat:=if 0<=i then(if i<n then some i.toNat else none) else if -(n:Int)<=i then some (i+n).toNat else none
noncomputable def jl{α:Type}(xs:List α)(i:Int):Option α:=(F5 xs.length i).bind λj=>xs[j]?
theorem DO{n:Nat}{i:Int}{j:Nat}(h:F5 n i=some j):seqIndex? i n=some j/\j<n/\-(n:Int)<=i/\i<n:=by
 unfold F5 at h
 by_cases h0:0<=i
 ·rw[if_pos h0]at h
  by_cases h1:i<n
  ·rw[if_pos h1]at h
   have e:i.toNat=j:=Option.some.inj h;exact⟨by rw[seqIndex_of h0 h1,e],⋯,⋯,h1⟩
  ·rw[if_neg h1]at h;cases h
 ·rw[if_neg h0]at h
  by_cases h1:-(n:Int)<=i
  ·rw[if_pos h1]at h
   have e:(i+n).toNat=j:=Option.some.inj h;exact⟨by rw[seqIndex_neg ⋯ h1,e],⋯,h1,⋯⟩
  ·rw[if_neg h1]at h;cases h
theorem um{α:Type}{xs:List α}{i:Int}{v:α}(h:jl xs i=some v):∃j,seqIndex? i xs.length=some j/\xs[j]?=some v/\j<xs.length/\-(xs.length:Int)<=i/\i<xs.length:=by
 unfold jl at h;cases e:F5 xs.length i with
 |none=>rw[e]at h;cases h
 |some j=>
  rw[e]at h;obtain⟨h1,h2,h3,h4⟩:=DO e;exact⟨j,h1,h,h2,h3,h4⟩
theorem bx{α:Type}{xs:List α}{j:Nat}{v:α}(h:xs[j]?=some v):jl xs (j:Int)=some v:=by
 have hj:j<xs.length:=(J8.mp h).1;have e:F5 xs.length (j:Int)=some j:=by
  unfold F5;rw[if_pos ⋯,if_pos ⋯];simp
 unfold jl;rw[e];exact h
noncomputable def Eo(b:Expr):Prop:=∀o i,subscripted b false o i=operate [o,i] (getItem o i)
noncomputable def EZ(X:Cx)(r:R2):Prop:=
 ∀(value slice:Expr) (pins:K6) (s:K8) (σ:St) (H:Hp) (x y:V) (v u:Value) (Q:VK),Inv X pins σ H s->bq x v->bq y u->r x y H Q ->
  subscripted slice false v u=operate [v,u] (getItem v u)->wpAny (model X.prog X.w) X.A (subscriptTail value slice v u) (EP X pins σ Q) X.xe s
noncomputable def HD(X:Cx)(id:String)(r:V->List V->Hp->VK->Prop):Prop:=
 ∀(pins:K6) (s:K8) (σ:St) (H:Hp) (x:V) (xs:List V) (v:Value) (us:K9) (Q:VK),Inv X pins σ H s->bq x v->bg xs us->r x xs H Q ->
  wpAny (model X.prog X.w) X.A (call (.builtin id) (v::us)) (EP X pins σ Q) X.xe s
section
variable {X:Cx}{a b:Expr}{ta tb:TE}{pos:Pos}
theorem aF{r:R2}(hr:EZ X r)(ha:PE X a ta)(hb:PE X b tb)(hs:Eo b):PE X (.Subscript a b pos) (F6 r ta tb):=by
 intro pins s σ H Q I h;exact Subscript_ (Fs ha hb I h λv u s2 x y H2 I2 rx ry q=>hr a b pins s2 σ H2 x y v u Q I2 rx ry q (hs _ _))
noncomputable def Cy(K:K5):R2:=λx y H Q=>∃p xs i v,x=.ref p/\y=.int i/\aS K H p xs/\jl xs i=some v/\Q v H
noncomputable def AK(K:K5):R2:=λx y H Q=>∃p xs i v,x=.ref p/\y=.int i/\bh K H p xs/\jl xs i=some v/\Q v H
noncomputable def EY:R2:=λx y H Q=>∃z i c,x=.str z/\y=.int i/\z.length<=sizeLine/\jl z.cps.toList i=some c/\Q (.str ⟨#[c]⟩) H
theorem yv:EZ X (Cy X.K):=by
 intro value slice pins s σ H x y v u Q I rx ry h hs;obtain⟨p,xs,i,z,rfl,rfl,hq,he,q⟩:=h;cases rx;obtain⟨t,rfl⟩:=ry;obtain⟨its,r,pl,hz⟩:=I.list hq;obtain⟨j,h1,h2,h3,h4,h5⟩:=um he;obtain⟨w,ew,rw'⟩:=r.get h2;have hl:=r.length;have hn:=pR;have fin:EP X pins σ Q w s:=⟨z,H,I,rw',q⟩
 by_cases h0:0<=i
 ·have hj:i.toNat=j:=by
   rw[seqIndex_of h0 h5]at h1;exact Option.some.inj h1
  exact item_listR pl.isList h0 ⋯ (by rw[hj];simpa using ew) fin hs
 ·have hj:(i+(its.toArray.size:Int)).toNat=j:=by
   rw[seqIndex_neg ⋯ h4]at h1;rw[Ke,<- hl];exact Option.some.inj h1
  exact subscriptTail_builtinR (x:=w) pl.isList.typeIs slot_list_getitem.lookup
   (wpAny_getItem_list_neg (Q:=λr s'=>r=w/\EP X pins σ Q r s') pl.isList ⋯ (by rw[Ke]<;>omega) ⋯ (by rw[hj];simpa using ew) ⟨rfl,fin⟩) hs
theorem Ck:EZ X (AK X.K):=by
 intro value slice pins s σ H x y v u Q I rx ry h hs;obtain⟨p,xs,i,z,rfl,rfl,hq,he,q⟩:=h;cases rx;obtain⟨t,rfl⟩:=ry;obtain⟨its,r,pl,hz⟩:=I.tuple hq;obtain⟨j,h1,h2,h3,h4,h5⟩:=um he;obtain⟨w,ew,rw'⟩:=r.get h2;have hl:=r.length;have hn:=pR;have fin:EP X pins σ Q w s:=⟨z,H,I,rw',q⟩;exact subscriptTail_builtinR (x:=w) pl.typeIs slot_tuple_getitem.lookup
  (getItem_tuple (j:=j) (Q:=λr s'=>r=w/\EP X pins σ Q r s') pl ⋯ ⋯ (by rw[Ke,<- hl];exact h1) (by simpa using ew) ⟨rfl,fin⟩) hs
theorem nM:EZ X EY:=by
 intro value slice pins s σ H x y v u Q I rx ry h hs;obtain⟨z,i,c,rfl,rfl,hz,he,q⟩:=h;obtain⟨t,rfl⟩:=rx;obtain⟨t',rfl⟩:=ry;obtain⟨j,h1,h2,h3,h4,h5⟩:=um he;have hl:z.cps.toList.length=z.length:=by simp[Str.length]
 rw[hl]at h1 h4 h5;have hn:=pR;exact tail_any (typeIs_str s z t) slot_str_getitem.lookup (getItem_str (c:=c) (by
  have e1:decide (i < -(2 ^ 63:Int))=false:=decide_eq_false ⋯;have e2:decide (i≥2 ^ 63)=false:=decide_eq_false ⋯;rw[e1,e2,Bool.or_false]) (by rw[h1];simpa using h2) ⟨.str ⟨#[c]⟩,H,I.tok _,⟨_,rfl⟩,q⟩) hs
theorem sR(lo hi:Option Int)(n:Nat):(sliceBounds lo hi none n).1=((HT.sIx n 0 lo:Nat):Int)/\(sliceBounds lo hi none n).2.1=((HT.sIx n n hi:Nat):Int)/\(sliceBounds lo hi none n).2.2=1:=by
 refine⟨?_,?_,rfl⟩
 ·cases lo with
  |none=>simp[sliceBounds,HT.sIx]
  |some i=>
   simp only[sliceBounds,HT.sIx,Option.getD_none,show(1:Int)>0 by decide,if_true]
   by_cases h:i<0
   ·simp only[h,if_true]<;>omega
   ·simp only[h,if_false]<;>omega
 ·cases hi with
  |none=>simp[sliceBounds,HT.sIx]
  |some i=>
   simp only[sliceBounds,HT.sIx,Option.getD_none,show(1:Int)>0 by decide,if_true]
   by_cases h:i<0
   ·simp only[h,if_true]<;>omega
   ·simp only[h,if_false]<;>omega
theorem qS(its:K9)(lo hi:Option Int):slicePick its.toArray lo hi none=((its.drop (HT.sIx its.length 0 lo)).take (HT.sIx its.length its.length hi-HT.sIx its.length 0 lo)).toArray:=by
 obtain⟨h1,h2,h3⟩:=sR lo hi its.toArray.size;unfold slicePick;rw[h1,h2,h3];simp only[sliceRange_one,pick_run,Ke]<;>rfl
noncomputable def G2(K:K5):V->Option Int->Option Int->Hp->VK->Prop:=λx lo hi H Q=>∃a xs,x=.ref a/\aS K H a xs/\∀p,H p=none->Q (.ref p) (ax H p (.lst (m3 xs lo hi)))
theorem GP:GD X (G2 X.K):=by
 intro pins s σ H x v vl vu lo hi sl Q I rx hs pl pu h;obtain⟨a,xs,rfl,hx,q⟩:=h;cases rx;obtain⟨its,r,ht,hz⟩:=I.list hx;have hlen:=r.length;refine⟨"list",_,slot_list_getitem.lookup,ht.isList.typeIs,?_⟩;refine wpAny_getItem_list_slice ht.isList hs pl pu .none (by simp) ?_ (by rw[Ke]<;>omega);rw[qS,<- hlen];refine⟨.ref s.heap.objs.size,_,I.laid (t':=s.toks) (o:=.lst (m3 xs lo hi)) (λb ob q=>J9 _ q) (Kv _) ?_,rfl,q _ (I.hok.fresh (Kv _))⟩;exact⟨KD (jT xs lo hi) hz,_,0,(r.drop (HT.sIx xs.length 0 lo)).take (HT.sIx xs.length xs.length hi-HT.sIx xs.length 0 lo),Kd _ rfl⟩
noncomputable def ja:V->Bool
 | .non=>true
 | .bl _=>true
 | .int _=>true
 | .str _=>true
 |_=>false
noncomputable def qd:V->V->Bool
 | .non,.non=>true
 | .bl a,.bl b=>a==b
 | .bl a,.int b=>(if a then 1 else 0)==b
 | .int a,.bl b=>a==(if b then 1 else 0)
 | .int a,.int b=>a==b
 | .str a,.str b=>a==b
 |_,_=>false
theorem gj{A:Lf}{s:K8}{y x:V}{u v:Value}(ry:bq y u)(rx:bq x v)(fy:ja y=true)(fx:ja x=true):SeqAt.EqAt A s u v (qd y x):=by
 cases y with
 |non=>
  cases ry;cases x with
  |non=>cases rx;exact SeqAt.EqAt.same _
  |bl b=>cases rx;exact SeqAt.EqAt.none_bool b
  |int b=>obtain⟨t,rfl⟩:=rx;exact SeqAt.EqAt.none_int b t
  |str b=>obtain⟨t,rfl⟩:=rx;exact SeqAt.EqAt.none_str b t
  |_=>exact absurd (show false=true from fx) Kx
 |bl a=>
  cases ry;cases x with
  |non=>cases rx;exact SeqAt.EqAt.bool_none a
  |bl b=>cases rx;exact SeqAt.EqAt.bool_bool a b
  |int b=>obtain⟨t,rfl⟩:=rx;exact SeqAt.EqAt.bool_int a b t
  |str b=>obtain⟨t,rfl⟩:=rx;exact SeqAt.EqAt.bool_str a b t
  |_=>exact absurd (show false=true from fx) Kx
 |int a=>
  obtain⟨t',rfl⟩:=ry;cases x with
  |non=>cases rx;exact SeqAt.EqAt.int_none a t'
  |bl b=>cases rx;exact SeqAt.EqAt.int_bool a t' b
  |int b=>obtain⟨t,rfl⟩:=rx;exact SeqAt.EqAt.int_int a t' b t
  |str b=>obtain⟨t,rfl⟩:=rx;exact SeqAt.EqAt.int_str a t' b t
  |_=>exact absurd (show false=true from fx) Kx
 |str a=>
  obtain⟨t',rfl⟩:=ry;cases x with
  |non=>cases rx;exact SeqAt.EqAt.str_none a t'
  |bl b=>cases rx;exact SeqAt.EqAt.str_bool a t' b
  |int b=>obtain⟨t,rfl⟩:=rx;exact SeqAt.EqAt.str_int a t' b t
  |str b=>obtain⟨t,rfl⟩:=rx;exact SeqAt.EqAt.str_str a t' b t
  |_=>exact absurd (show false=true from fx) Kx
 |_=>exact absurd (show false=true from fy) Kx
theorem mi:gI X (.builtin "len") (λxs H Q=>∃p ys,xs=[.ref p]/\(aS X.K H p ys\/bh X.K H p ys)/\Q (.int ys.length) H):=by
 intro pins s σ H xs us Q I r h;obtain⟨p,ys,rfl,hq,q⟩:=h;obtain⟨u,rfl,rx⟩:=vS r;cases rx;have hn:=pR;rcases hq with hq | hq
 ·obtain⟨its,r',pl,hz⟩:=I.list hq
  have hlen:=r'.length;exact Calls.call_len_list pl.isList (by simp only[Ke]<;>omega) ⟨.int ys.length,H,I.tok _,⟨s.toks+1,by rw[Ke,hlen]⟩,q⟩
 ·obtain⟨its,r',pl,hz⟩:=I.tuple hq
  have hlen:=r'.length;exact len_tuple pl (by simp only[Ke]<;>omega) ⟨.int ys.length,H,I.tok _,⟨s.toks+1,by rw[Ke,hlen]⟩,q⟩
theorem aU:gI X (.builtin "len") (λxs H Q=>∃z,xs=[.str z]/\z.length<=sizeLine/\Q (.int z.length) H):=by
 intro pins s σ H xs us Q I r h;obtain⟨z,rfl,hz,q⟩:=h;obtain⟨u,rfl,t,rfl⟩:=vS r;have hn:=pR;exact len_str ⋯ ⟨.int z.length,H,I.tok _,⟨_,rfl⟩,q⟩
theorem cK:gI X (.type "list") (λxs H Q=>∃p ys,xs=[.ref p]/\(aS X.K H p ys\/bh X.K H p ys)/\∀l,H l=none->Q (.ref l) (ax H l (.lst ys))):=by
 intro pins s σ H xs us Q I r h;obtain⟨p,ys,rfl,hq,q⟩:=h;obtain⟨u,rfl,rx⟩:=vS r;cases rx;have fin:∀(its:K9),bg ys its->ys.length<=sizeLine->∀(h':Heap) (c':Nat),(∀b o',s.heap.get? b=some o'->h'.get? b=some o') ->
   h'.get? s.heap.objs.size=some {cls:=.type "list",dict:=none,data:=.seq its.toArray c',slots:=#[]}->EP X pins σ Q (.ref s.heap.objs.size) {s with heap:=h' }:=λits r' hz h' c' kp e=>
  ⟨.ref s.heap.objs.size,_,I.laid (t':=s.toks) kp (Kv _) (show bS X.prog X.w _ h' _ (.lst ys) from⟨hz,its,c',r',e⟩),rfl,q _ (I.hok.fresh (Kv _))⟩
 rcases hq with hq | hq
 ·obtain⟨its,r',pl,hz⟩:=I.list hq
  have hlen:=r'.length;obtain⟨o,ho,hc,n,hd⟩:=pl.isList;exact call_list_seq p (.inl rfl) ho hc hd (λh' c' kp e=>fin its r' hz h' c' kp e) (by simp only[Ke]<;>omega)
 ·obtain⟨its,r',pl,hz⟩:=I.tuple hq
  have hlen:=r'.length;obtain⟨o,ho,hc,n,hd⟩:=pl;exact call_list_seq p (.inr rfl) ho hc hd (λh' c' kp e=>fin its r' hz h' c' kp e) (by simp only[Ke]<;>omega)
theorem qW:gI X (.type "tuple") (λxs H Q=>∃p ys,xs=[.ref p]/\((aS X.K H p ys/\∀l,H l=none->Q (.ref l) (ax H l (.tup ys)))\/(bh X.K H p ys/\Q (.ref p) H))):=by
 intro pins s σ H xs us Q I r h;obtain⟨p,ys,rfl,h⟩:=h;obtain⟨u,rfl,rx⟩:=vS r;cases rx;rcases h with⟨hq,q⟩ | ⟨hq,q⟩
 ·obtain⟨its,r',pl,hz⟩:=I.list hq
  have hlen:=r'.length;refine call_tuple_list pl.isList (λh' kp=>?_) (by simp only[Ke]<;>omega);have I1:Inv X pins σ H {s with heap:=h' }:=I.kept (t':=s.toks) kp;have I2:Inv X pins σ (ax H h'.objs.size (.tup ys)) {s with heap:=h'.push {cls:=.type "tuple",data:=.seq its.toArray} }:=
   I1.laid (t':=s.toks) (λb o e=>J9 _ e) (Kv _) (show bS X.prog X.w _ _ _ (.tup ys) from⟨hz,its,r',IsTup.new _ _⟩)
  exact⟨.ref h'.objs.size,_,I2,rfl,q _ (I1.hok.fresh (Kv _))⟩
 ·obtain⟨its,r',pl,hz⟩:=I.tuple hq
  exact call_tuple_same pl ⟨.ref p,H,I,rfl,q⟩
noncomputable def Hy(K:K5)(T:String)(x:V)(H:Hp):Prop:=match x with
 | .str _=>T="str"
 | .int _=>T="int"
 | .ref p=>(T="list"/\∃xs,aS K H p xs)\/(T="tuple"/\∃o,K.lookup p=some o/\o.cls=.type "tuple"/\o.dict=none) \/
   (T="dict"/\((∃kvs,H p=some (.dK kvs))\/∃kvs,H p=some (.dT kvs)))\/(T="set"/\∃S n,H p=some (.set S n))
 |_=>False
theorem FP{pins:K6}{σ:St}{H:Hp}{s:K8}{T:String}{x:V}{v:Value}(I:Inv X pins σ H s)(r:bq x v)(ty:Hy X.K T x H) :
  s.TypeIs v T/\∀a,v=.ref a->∃ob,s.heap.get? a=some ob/\ob.dict=none:=by
 cases x with
 |str z=>
  obtain⟨t,rfl⟩:=r;cases(show T="str" from ty);exact⟨typeIs_str s z t,λ_ e=>nomatch e⟩
 |int i=>
  obtain⟨t,rfl⟩:=r;cases(show T="int" from ty);exact⟨typeIs_int s i t,λ_ e=>nomatch e⟩
 |ref p=>
  cases r;rcases ty with⟨rfl,xs,hq⟩ | ⟨rfl,o,hk,hc,hd⟩ | ⟨rfl,hk⟩ | ⟨rfl,S,n,hk⟩
  ·obtain⟨its,_,pl,_⟩:=I.list hq
   refine⟨pl.isList.typeIs,λa e=>?_⟩;cases e;obtain⟨o,n,e,c,hd,_⟩:=pl;exact⟨o,e,hd⟩
  ·refine⟨⟨o,I.kIn p o hk,hc⟩,λa e=>?_⟩
   cases e;exact⟨o,I.kIn _ o hk,hd⟩
  ·have z:∃o,s.heap.get? p=some o/\o.ExactDict:=by
    rcases hk with⟨kvs,hk⟩ | ⟨kvs,hk⟩
    ·obtain⟨_,_,_,_,o,_,_,e,ex,_⟩:=I.hok p _ hk
     exact⟨o,e,ex⟩
    ·obtain⟨_,_,_,_,o,_,_,e,ex,_⟩:=I.hok p _ hk
     exact⟨o,e,ex⟩
   obtain⟨o,e,ex⟩:=z;refine⟨⟨o,e,ex.1⟩,λa e2=>?_⟩;cases e2;exact⟨o,e,ex.2.1⟩
  ·obtain⟨o,_,_,_,e,ex,_⟩:=I.hok p _ hk
   refine⟨⟨o,e,ex.1⟩,λa e2=>?_⟩;cases e2;exact⟨o,e,ex.2.1⟩
 |_=>exact False.elim ty
noncomputable def G_(K:K5)(T:String)(r:V->List V->Hp->VK->Prop)(to:TE)(t:TA):TE:=λσ H Q=>to σ H λx H1=>Hy K T x H1/\t σ H1 λxs H2=>r x xs H2 Q
variable {o e:Expr}{es:Li}{to:TE}{t:TA}{name:Str}{apos cpos:Pos}{T id:String}{r:V->List V->Hp->VK->Prop}
theorem ic(pa:PlainAttrs T)(slot:Slot T name id)(hty:typeOf (.builtin id)=pure (.type "method_descriptor"))(hm:HD X id r)(ho:PE X o to)(ha:PA X (e::es) t)
  (hbase:autoParam (attributeBase o name X.env (eval o X.env)=eval o X.env) zz0._auto_1)
  (hfew:autoParam (((backTo cpos (starEach (e::es) X.env)).all (λx=>!x.1)&&(backToKw cpos (keywordEach [] X.env)).all (λx=>x.1.isSome)
   && decide ((e::es).length+([]:List Keyword).length+(if([]:List Keyword).isEmpty then 0 else 1)<30))=true) zz0._auto_1)
  (hline:autoParam ((apos.endLine==cpos.line)=true) zz0._auto_1) (hs:autoParam (starEach (e::es) X.env=(false,eval e X.env)::starEach es X.env) zz0._auto_1) (hplain:autoParam ((backTo cpos (starEach es X.env)).any (·.1)=false) zz0._auto_1) :
  PE X (.Call (.Attribute o name apos) (e::es) [] cpos) (G_ X.K T r to t):=by
 intro pins s σ H Q I h;refine wpAny_Call_method_late hbase hfew hline rfl (bZ (ho pins s σ H _ I h) λv s1 ⟨x,H1,I1,r1,ty,q1⟩=>?_);obtain⟨h1,h2⟩:=FP I1 r1 ty;refine⟨T,id,pa,slot,hty,h1,h2,?_⟩;have hA:=ha cpos pins s1 σ H1 _ I1 q1;rw[hs]at hA ⊢;refine Calls.callWith_builtin (by show(false||(backTo cpos (starEach es X.env)).any (·.1))=false;rw[hplain]<;>rfl) (Calls.evalArgs_plain ?_);exact bZ hA λus s2 ⟨vs,H2,I2,r2,q2⟩=>hm pins s2 σ H2 x vs v us Q I2 r1 r2 q2
end
noncomputable def Hn(X:Cx)(id:String)(r:V->List V->Hp->VK->Prop):Prop:=
 ∀(pins:K6) (s:K8) (σ:St) (H:Hp) (x:V) (xs:List V) (v:Value) (us:K9) (Q:VK),Inv X pins σ H s->bq x v->bg xs us->r x xs H Q ->
  wpAny (model X.prog X.w) X.A (call (.builtin id) (v::us)) (EP X pins σ Q) X.xe s
theorem bg.one:∀{x:V} {us:K9},bg [x] us->∃u,us=[u]/\bq x u
 |_,_,.cons r .nil=>⟨_,rfl,r⟩
theorem bg.two:∀{x y:V} {us:K9},bg [x,y] us->∃u v,us=[u,v]/\bq x u/\bq y v
 |_,_,_,.cons r (.cons q .nil)=>⟨_,_,rfl,r,q⟩
theorem bg.zero:∀{us:K9},bg [] us->us=[]
 |_,.nil=>rfl
section
variable {X:Cx}{pins:K6}{σ:St}{H:Hp}{s:K8}{l b:Addr}{xs ys zs:List V}
theorem Inv.lset{its its':K9}{n:Nat}{f:Array Value->Array Value}{t':Nat}(I:Inv X pins σ H s)(hH:H l=some (.lst xs))
  (e:s.heap.get? l=some {cls:=.type "list",data:=.seq its.toArray n}) (hf:f its.toArray=its'.toArray) (hv:bg ys its') (hz:ys.length<=sizeLine) :
  Inv X pins σ (ax H l (.lst ys)) {s with heap:=s.heap.update l (Obj.mapSeq f),toks:=t' }:=by
 have q:=PySem.IsL.update e f;rw[hf]at q;refine I.write (x:=l) (e:=l) (by rw[hH];exact trivial) (.inl rfl) (λb' u hb hu=>(Kc s.heap (Obj.mapSeq f) (Ne.symm hb)).trans hu) ⟨_,q⟩ ?_;exact⟨hz,its',_,hv,q⟩
theorem Inv.lnew{its:K9}{t':Nat}(I:Inv X pins σ H s)(hv:bg ys its)(hz:ys.length<=sizeLine) :
  Inv X pins σ (ax H s.heap.objs.size (.lst ys)) {s with heap:=s.heap.push {cls:=.type "list",data:=.seq its.toArray},toks:=t' }:=
 I.laid (λ_ _ q=>J9 _ q) (Kv _) ⟨hz,its,0,hv,Kd _ rfl⟩
theorem Inv.fresh(I:Inv X pins σ H s):H s.heap.objs.size=none:=I.hok.fresh (Kv _)
theorem Inv.lstM(I:Inv X pins σ H s)(hH:H l=some (.lst xs)):xs.length<=sizeLine/\∃(its:K9) (n:Nat),bg xs its/\xs.length=its.length/\s.heap.get? l=some {cls:=.type "list",data:=.seq its.toArray n}:=by
 obtain⟨z,its,n,r,e⟩:=I.hok l _ hH;exact⟨z,its,n,r,r.length,e⟩
theorem Cd{n:Nat}(h:n<=sizeLine):Builtin.List.listTooLong n=false:=by
 unfold Builtin.List.listTooLong;exact decide_eq_false ⋯
end
section
variable {X:Cx}
noncomputable def uC:V->List V->Hp->VK->Prop:=λx vs H Q=>∃l xs y,x=.ref l/\vs=[y]/\H l=some (.lst xs)/\xs.length<sizeLine/\Q .non (ax H l (.lst (xs++[y])))
theorem dN:Hn X "list.append" uC:=by
 intro pins s σ H x vs v us Q I rx rv h;obtain⟨l,xs,y,rfl,rfl,hH,hz,q⟩:=h;cases rx;obtain⟨u,rfl,ru⟩:=rv.one;obtain⟨z,its,n,r,hl,e⟩:=I.lstM hH;refine call_meets F.slot_list_append ⟨_,e,rfl⟩ F.entry_list_append (F.args_list_append_2 _ _) (PySem.list_append l its.toArray n u (by rw[Ke];omega)) ⟨e,?_⟩;refine⟨.non,_,I.lset (its':=its++[u]) hH e (by simp) (r.append (.cons ru .nil)) ?_,rfl,q⟩;rw[Ku,List.length_singleton];omega
noncomputable def ud:V->List V->Hp->VK->Prop:=λx vs H Q=>∃l b xs zs,x=.ref l/\vs=[.ref b]/\H l=some (.lst xs)/\H b=some (.lst zs)/\xs.length+zs.length<=sizeLine/\Q .non (ax H l (.lst (xs++zs)))
theorem zZ:Hn X "list.extend" ud:=by
 intro pins s σ H x vs v us Q I rx rv h;obtain⟨l,b,xs,zs,rfl,rfl,hH,hB,hz,q⟩:=h;cases rx;obtain⟨u,rfl,ru⟩:=rv.one;cases ru;obtain⟨z,its,n,r,hl,e⟩:=I.lstM hH;obtain⟨z2,its2,n2,r2,hl2,e2⟩:=I.lstM hB;have hsz:its.toArray.size+its2.toArray.size<=sizeLine:=by rw[Ke,Ke];omega
 have hlong:¬ (!its.toArray.isEmpty&&Builtin.List.listTooLong (its.toArray.size+its2.toArray.size))=true:=by
  rw[Cd hsz,Bool.and_false];exact Kx
 refine call_meets F.slot_list_extend ⟨_,e,rfl⟩ F.entry_list_extend (F.args_list_extend_2 _ _)
  (AutoSeq1.list_extend_list_list_0 l its.toArray n b its2.toArray n2 hlong (by rw[Ke];omega) ⋯) ⟨e,e2,?_⟩
 refine⟨.non,_,I.lset (its':=its++its2) hH e (by simp) (r.append r2) ?_,rfl,q⟩;rw[Ku];omega
noncomputable def Fq:R2:=λx y H Q=>∃l b xs zs,x=.ref l/\y=.ref b/\H l=some (.lst xs)/\H b=some (.lst zs)/\xs.length+zs.length<=sizeLine/\∀p,H p=none->Q (.ref p) (ax H p (.lst (xs++zs)))
theorem yl:bd X (binaryOp .Add) Fq:=by
 intro pins s σ H x y v u Q I rx ry h;obtain⟨l,b,xs,zs,rfl,rfl,hH,hB,hz,q⟩:=h;cases rx;cases ry;obtain⟨z,its,n,r,hl,e⟩:=I.lstM hH;obtain⟨z2,its2,n2,r2,hl2,e2⟩:=I.lstM hB;refine PySem.P.add_list e e2 ?_ (by rw[Ke,Ke];omega);have ea:its.toArray++its2.toArray=(its++its2).toArray:=by simp
 rw[ea];exact⟨.ref _,_,I.lnew (t':=s.toks) (r.append r2) (by rw[Ku];omega),rfl,q _ I.fresh⟩
end
section
variable {prog:Ld}{w:Lg}{A:Lf}{E:K4}{s:K8}
end
section
variable {X:Cx}
end
section
variable {κ:Type}[DecidableEq κ]
noncomputable def cg(kvs:List (κ×V))(k:κ):Option V:=(kvs.find? λkv=>decide (kv.1=k)).map (·.2)
noncomputable def cC(kvs:List (κ×V))(k:κ)(v:V):List (κ×V):=
 if(kvs.any λkv=>decide (kv.1=k))=true then kvs.map (λkv=>if kv.1=k then(kv.1,v) else kv) else kvs++[(k,v)]
theorem cP{p:κ×V}{r:List (κ×V)}{k:κ}(e:p.1=k):cg (p::r) k=some p.2:=by simp[cg,List.find?_cons,e]
theorem cO{p:κ×V}{r:List (κ×V)}{k:κ}(e:¬ p.1=k):cg (p::r) k=cg r k:=by simp[cg,List.find?_cons,e]
theorem fE(k:κ):∀kvs:List (κ×V),(kvs.any λkv=>decide (kv.1=k))=(cg kvs k).isSome
 | []=>rfl
 |p::r=>by
  rw[List.any_cons]
  by_cases e:p.1=k
  ·simp only[cP e,decide_eq_true e,Bool.true_or,Option.isSome_some]
  ·rw[cO e,decide_eq_false e,Bool.false_or];exact fE k r
theorem wq(k j:κ)(y:V):∀kvs:List (κ×V),cg (kvs.map λkv=>if kv.1=k then(kv.1,y) else kv) j=(cg kvs j).map λx=>if j=k then y else x
 | []=>rfl
 |p::r=>by
  have ih:=wq k j y r;rw[KC]
  by_cases h:p.1=k
  ·rw[if_pos h]
   by_cases e:p.1=j
   ·rw[cP (p:=(p.1,y)) e,cP e,Option.map_some,if_pos (e.symm.trans h)]
   ·rw[cO (p:=(p.1,y)) e,cO e,ih]
  ·rw[if_neg h]
   by_cases e:p.1=j
   ·rw[cP (p:=p) e,cP e,Option.map_some,if_neg (λz=>h (e.trans z))]
   ·rw[cO (p:=p) e,cO e,ih]
theorem rU(k j:κ)(y:V):∀kvs:List (κ×V),cg kvs k=none->cg (kvs++[(k,y)]) j=if j=k then some y else cg kvs j
 | [],_=>by
  by_cases e:k=j
  ·rw[if_pos e.symm];exact cP (p:=(k,y)) e
  ·rw[if_neg (λz=>e z.symm)];exact cO (p:=(k,y)) e
 |p::r,hn=>by
  rw[List.cons_append];have hk:¬ p.1=k:=λz=>by rw[cP z]at hn;cases hn
  rw[cO hk]at hn;have ih:=rU k j y r hn
  by_cases e:p.1=j
  ·rw[cP e,cP e,if_neg (λz=>hk (e.trans z))]
  ·rw[cO e,cO e,ih]
theorem mx(kvs:List (κ×V))(k j:κ)(y:V):cg (cC kvs k y) j=if j=k then some y else cg kvs j:=by
 unfold cC
 by_cases a:(kvs.any λkv=>decide (kv.1=k))=true
 ·rw[if_pos a,wq]
  rw[fE]at a
  by_cases e:j=k
  ·obtain⟨x,hx⟩:=Option.isSome_iff_exists.mp a
   rw[if_pos e,e,hx,Option.map_some,if_pos rfl]
  ·rw[if_neg e]
   cases cg kvs j with
   |none=>rfl
   |some x=>rw[Option.map_some,if_neg e]
 ·rw[if_neg a]
  refine rU k j y kvs ?_;rw[fE]at a;cases q:cg kvs k with
  |none=>rfl
  |some x=>rw[q]at a;exact(a rfl).elim
theorem gL(kvs:List (κ×V))(k:κ)(v:V):(cC kvs k v).length<=kvs.length+1:=by
 unfold cC
 split
 ·rw[J_];omega
 ·rw[Ku,Ki,List.length_nil];omega
theorem pV{kvs:List (κ×V)}{k:κ}(v:V)(h:cg kvs k=none):cC kvs k v=kvs++[(k,v)]:=by
 unfold cC;rw[fE,h];exact if_neg nofun
theorem jO.isSome_eq{o:Option V}{u:Option Value}(r:jO o u):o.isSome=u.isSome:=by
 cases o with
 |none=>cases u with
  |none=>rfl
  |some _=>exact(show False from r).elim
 |some _=>cases u with
  |none=>exact(show False from r).elim
  |some _=>rfl
theorem KV.val{kvs:List (κ×V)}{vs:List (κ×Value)}(r:KV kvs vs)(k:κ):jO (cg kvs k) (valueAt vs k):=by
 unfold KV at r
 induction r with
 |nil=>exact True.intro
 | @cons p q ps qs h t ih=>
  obtain⟨h1,h2⟩:=h
  by_cases e:p.1=k
  ·have e':q.1=k:=h1.symm.trans e
   have b:valueAt (q::qs) k=some q.2:=by simp[valueAt,List.find?_cons,e']
   rw[cP e,b];exact h2
  ·have e':¬ q.1=k:=λz=>e (h1.trans z)
   have b:valueAt (q::qs) k=valueAt qs k:=by simp[valueAt,List.find?_cons,e']
   rw[cO e,b];exact ih
theorem KV.any{kvs:List (κ×V)}{vs:List (κ×Value)}(r:KV kvs vs)(k:κ):(kvs.any λkv=>decide (kv.1=k))=vs.any λkv=>decide (kv.1=k):=by
 unfold KV at r
 induction r with
 |nil=>rfl
 |cons h t ih=>rw[List.any_cons,List.any_cons,ih,h.1]
theorem KV.repl{kvs:List (κ×V)}{vs:List (κ×Value)}(r:KV kvs vs)(k:κ){y:V}{u:Value}(ry:bq y u) :
  KV (kvs.map λkv=>if kv.1=k then(kv.1,y) else kv) (vs.map λkv=>if kv.1=k then(kv.1,u) else kv):=by
 unfold KV at r ⊢
 induction r with
 |nil=>exact .nil
 | @cons p q ps qs h t ih=>
  rw[KC,KC];refine .cons ?_ ih;obtain⟨h1,h2⟩:=h
  by_cases e:p.1=k
  ·rw[if_pos e,if_pos (h1.symm.trans e)];exact⟨h1,ry⟩
  ·rw[if_neg e,if_neg (λz=>e (h1.trans z))];exact⟨h1,h2⟩
theorem KV.put{kvs:List (κ×V)}{vs:List (κ×Value)}(r:KV kvs vs)(k:κ){y:V}{u:Value}(ry:bq y u):KV (cC kvs k y) (stored vs k u):=by
 unfold cC stored;rw[r.any k]
 by_cases e:(vs.any λkv=>decide (kv.1=k))=true
 ·rw[if_pos e,if_pos e];exact r.repl k ry
 ·rw[if_neg e,if_neg e];exact Paired.snoc r ⟨rfl,ry⟩
theorem KV.length{kvs:List (κ×V)}{vs:List (κ×Value)}(r:KV kvs vs):kvs.length=vs.length:=Paired.length r
end
theorem rX{P:Ld}{w:Lg}{k:cS}{u:Value}(r:bq (kV k) u):(cG P w).is k u=true:=by
 cases k with
 |inl i=>obtain⟨t,e⟩:=(show ∃t,u=Value.int i t from r);subst e;exact u7 P w i t
 |inr x=>obtain⟨t,e⟩:=(show ∃t,u=Value.str x t from r);subst e;exact vR P w x t
theorem rB{P:Ld}{w:Lg}:∀{ks:List cS} {us:K9},bg (ks.map kV) us->ItemsAre (cG P w) ks us
 | [],_,r=>by rw[List.map_nil]at r;cases r;exact .nil
 |k::ks,_,r=>by
  rw[KC]at r;cases r with
  |cons h t=>exact .cons (rX h) (rB t)
noncomputable abbrev KT(H:Hp):List (List cS×V)->List (List cS×Addr×Value)->Prop:=Paired λp q=>p.1=q.1/\H q.2.1=some (.tup (p.1.map kV))/\bq p.2 q.2.2
theorem KT.val{H:Hp}{kvs:List (List cS×V)}{xs:List (List cS×Addr×Value)}(r:KT H kvs xs)(k:List cS):jO (cg kvs k) ((atKey xs k).map (·.2)):=by
 induction r with
 |nil=>exact True.intro
 | @cons p q ps qs h t ih=>
  obtain⟨h1,_,h2⟩:=h
  by_cases e:p.1=k
  ·have e':q.1=k:=h1.symm.trans e
   have b:atKey (q::qs) k=some q.2:=by simp[atKey,List.find?_cons,e']
   rw[cP e,b];exact h2
  ·have e':¬ q.1=k:=λz=>e (h1.trans z)
   have b:atKey (q::qs) k=atKey qs k:=by simp[atKey,List.find?_cons,e']
   rw[cO e,b];exact ih
theorem KT.repl{H:Hp}{kvs:List (List cS×V)}{xs:List (List cS×Addr×Value)}(r:KT H kvs xs)(k:List cS){y:V}{u:Value}(ry:bq y u) :
  KT H (kvs.map λkv=>if kv.1=k then(kv.1,y) else kv) (xs.map (putAt k u)):=by
 induction r with
 |nil=>exact .nil
 | @cons p q ps qs h t ih=>
  rw[KC,KC];refine .cons ?_ ih;obtain⟨h1,h2,h3⟩:=h;unfold putAt
  by_cases e:p.1=k
  ·rw[if_pos e,if_pos (h1.symm.trans e)];exact⟨h1,h2,ry⟩
  ·rw[if_neg e,if_neg (λz=>e (h1.trans z))];exact⟨h1,h2,h3⟩
theorem KT.put{H:Hp}{kvs:List (List cS×V)}{xs:List (List cS×Addr×Value)}(r:KT H kvs xs)(k:List cS){b:Addr}{y:V}{u:Value}(hb:H b=some (.tup (k.map kV)))(ry:bq y u) :
  KT H (cC kvs k y) (storedH xs k b u):=by
 have e:(kvs.any λkv=>decide (kv.1=k))=(atKey xs k).isSome:=by
  rw[fE,(r.val k).isSome_eq,Option.isSome_map]
 unfold cC storedH;rw[e]
 by_cases q:(atKey xs k).isSome=true
 ·rw[if_pos q,if_pos q];exact r.repl k ry
 ·rw[if_neg q,if_neg q];exact Paired.snoc r ⟨rfl,hb,ry⟩
theorem KT.keeps{H H':Hp}{kvs:List (List cS×V)}{xs:List (List cS×Addr×Value)}(r:KT H kvs xs)(ht:∀b ys,H b=some (.tup ys)->H' b=some (.tup ys)):KT H' kvs xs:=
 Paired.mapP r λ_ _ z=>⟨z.1,ht _ _ z.2.1,z.2.2⟩
section
variable {P:Ld}{w:Lg}{H:Hp}{h:Heap}{a:Addr}
theorem EQ{u:HO}(ok:km P w H h)(e:Rd H a u):bS P w H h a u:=e.ok ok
theorem r_{kvs:List (cS×V)}(ok:km P w H h)(e:Rd H a (.dK kvs)):kvs.length<=sizeLine/\(a==sysModules)=false/\∃vs,KV kvs vs/\h.DictOf (cG P w) a vs:=
 show bS P w H h a (.dK kvs) from EQ ok e
theorem Bq{kvs:List (cS×V)}(ok:km P w H h)(e:H a=some (.dK kvs)):kvs.length<=sizeLine/\(a==sysModules)=false/\∃vs,KV kvs vs/\h.DictOf (cG P w) a vs:=r_ ok (.inl e)
theorem uk{ks:List cS}(ok:km P w H h)(e:H a=some (.tup (ks.map kV))):(tupleKind (cG P w)).is h ks a:=by
 obtain⟨_,its,r,o,h1,h2,n,h3⟩:=(show bS P w H h a (.tup (ks.map kV)) from ok a _ e);exact⟨o,its.toArray,n,h1,h2,h3,by simpa using rB r⟩
theorem vw{kvs:List (List cS×V)}(ok:km P w H h)(e:Rd H a (.dT kvs)):kvs.length<=sizeLine/\(a==sysModules)=false /\
  ∃xs,KT H kvs xs/\h.DictOfH (tupleKind (cG P w)) a xs:=by
 obtain⟨z,y,xs,r,o,es,ep,h1,h2,h3,h4,h5⟩:=(show bS P w H h a (.dT kvs) from EQ ok e);refine⟨z,y,xs,r,o,es,ep,h1,h2,h3,h4,λx hx=>?_,h5⟩;have all:∀{l:List (List cS×V)} {m:List (List cS×Addr×Value)},KT H l m->∀x∈m,(tupleKind (cG P w)).is h x.1 x.2.1:=by
  intro l m q
  induction q with
  |nil=>intro x hx;exact nomatch hx
  | @cons p q ps qs hq t ih=>
   intro x hx;rcases Km.mp hx with e | hx
   ·subst e
    exact uk ok (by rw[<- hq.1];exact hq.2.1)
   ·exact ih x hx
 exact all r x hx
theorem Gc{kvs:List (List cS×V)}(ok:km P w H h)(e:H a=some (.dT kvs)):kvs.length<=sizeLine/\(a==sysModules)=false /\
  ∃xs,KT H kvs xs/\h.DictOfH (tupleKind (cG P w)) a xs:=vw ok (.inl e)
end
noncomputable def oB(H:Hp)(a:Addr)(y:V)(r:Option V):Prop:=
 (∃kvs k,Rd H a (.dK kvs)/\y=kV k/\r=cg kvs k)\/∃kvs k b,Rd H a (.dT kvs)/\y=.ref b/\H b=some (.tup (k.map kV))/\r=cg kvs k
noncomputable def A5(H:Hp)(a:Addr)(y v:V)(H':Hp):Prop:=
 (∃kvs k,H a=some (.dK kvs)/\y=kV k/\kvs.length<sizeLine/\H'=ax H a (.dK (cC kvs k v))) \/
 ∃kvs k b,H a=some (.dT kvs)/\y=.ref b/\H b=some (.tup (k.map kV))/\kvs.length<sizeLine/\H'=ax H a (.dT (cC kvs k v))
theorem oB.t{H:Hp}{a b:Addr}{kvs:List (List cS×V)}{k:List cS}(e:H a=some (.dT kvs))(eb:H b=some (.tup (k.map kV))):oB H a (.ref b) (cg kvs k):=.inr ⟨kvs,k,b,.inl e,rfl,eb,rfl⟩
theorem A5.t{H:Hp}{a b:Addr}{kvs:List (List cS×V)}{k:List cS}{v:V}(e:H a=some (.dT kvs))(eb:H b=some (.tup (k.map kV)))(hl:kvs.length<sizeLine) :
  A5 H a (.ref b) v (ax H a (.dT (cC kvs k v))):=.inr ⟨kvs,k,b,e,rfl,eb,hl,rfl⟩
section
variable {X:Cx}{pins:K6}{σ:St}{H:Hp}{s:K8}{a:Addr}{y v:V}{u r:Value}{o:Option V}{A:Lf}{E:K4}
theorem Inv.big(I:Inv X pins σ H s):sysModules<s.heap.objs.size:=by
 have h:mainGlobals<s.heap.objs.size:=(I.mod.glob.keeps I.bk).lt;exact Nat.lt_trans nofun h
theorem zq{Q:K4}(hu:A.units+1<cLine)(I:Inv X pins σ H s)(g:oB H a y (some v))(ry:bq y u)(h:∀w' s',Inv X pins σ H s'->bq v w'->Q w' s') :
  wpAny (model X.prog X.w) A (getItem (.ref a) u) Q E s:=by
 rcases g with⟨kvs,k,e,ey,l⟩ | ⟨kvs,k,b,e,ey,eb,l⟩
 ·subst ey
  obtain⟨z,hd,vs,rel,dd⟩:=r_ I.hok e;obtain⟨w',hw,rw'⟩:=jO.some_of (v:=v) (o:=valueAt vs k) (by rw[l];exact rel.val k);exact wpAny_getItem_of (rX ry) dd.mapOf hw (h w' _ (I.tok _) rw')
 ·subst ey
  cases(show u=Value.ref b from ry);obtain⟨z,hd,xs,rel,dd⟩:=vw I.hok e;obtain⟨w',hw,rw'⟩:=jO.some_of (v:=v) (o:=(atKey xs k).map (·.2)) (by rw[l];exact rel.val k);obtain⟨p,hp,hp2⟩:=Kz.mp hw;refine wpAny_getItem_heap (tupleKind_room_in1 hu) (uk I.hok eb) dd hp ?_;rw[hp2];exact h w' _ (I.tok _) rw'
theorem DM{Q:K4}(hu:A.units+1<cLine)(I:Inv X pins σ H s)(g:oB H a y o)(ry:bq y u)(h:∀s',Inv X pins σ H s'->Q (.bool (!o.isSome)) s') :
  wpAny (model X.prog X.w) A (compareOp .NotIn u (.ref a)) Q E s:=by
 rcases g with⟨kvs,k,e,ey,l⟩ | ⟨kvs,k,b,e,ey,eb,l⟩
 ·subst ey
  obtain⟨z,hd,vs,rel,dd⟩:=r_ I.hok e;refine wpAny_notIn_of (rX ry) hd dd.mapOf ?_;rw[<- (rel.val k).isSome_eq,<- l];exact h _ (I.tok _)
 ·subst ey
  cases(show u=Value.ref b from ry);obtain⟨z,hd,xs,rel,dd⟩:=vw I.hok e;refine wpAny_notIn_heap (tupleKind_room_in1 hu) (uk I.hok eb) hd dd ?_;have q:=(rel.val k).isSome_eq;rw[Option.isSome_map]at q;rw[<- q,<- l];exact h _ (I.tok _)
theorem oS{h':Heap}{t':Nat}{ob:HO}(I:Inv X pins σ H s)(mu:GC (H a))(hs:Heap.SameBut a s.heap h')(he:∃q,h'.get? a=some q)(new:bS X.prog X.w (ax H a ob) h' a ob) :
  Inv X pins σ (ax H a ob) {s with heap:=h',toks:=t' }:=
 I.write (x:=a) (e:=a) mu (.inl rfl) (λb q hb z=>(hs.2 b hb).trans z) he new
theorem wU{P:Ld}{w:Lg}{H':Hp}{h':Heap}{kvs:List (cS×V)}{vs:List (cS×Value)}(z:kvs.length<=sizeLine)(hd:(a==sysModules)=false)(rel:KV kvs vs)(dd:h'.DictOf (cG P w) a vs) :
  bS P w H' h' a (.dK kvs):=⟨z,hd,vs,rel,dd⟩
theorem Bi{H':Hp}{Q:Unit->Shared->Prop}(hu:A.units+1<cLine)(I:Inv X pins σ H s)(g:A5 H a y v H')(ry:bq y u)(rv:bq v r)(h:∀s',Inv X pins σ H' s'->Q () s') :
  wpAny (model X.prog X.w) A (setItem (.ref a) u r) Q E s:=by
 rcases g with⟨kvs,k,e,ey,l,eH⟩ | ⟨kvs,k,b,e,ey,eb,l,eH⟩
 ·subst ey eH
  obtain⟨z,hd,vs,rel,dd⟩:=Bq I.hok e;have hz:vs.length<=sizeLine:=by rw[<- rel.length];exact z
  have hl:(cC kvs k v).length<=sizeLine:=by have:=gL kvs k v;omega
  refine wpAny_setItem_pairs (hsz:=hz) (rX ry) dd λh' dd' hs=>h _ ?_;have he:∃q,h'.get? a=some q:=let ⟨q,_,_,hq,_⟩:=dd';⟨q,hq⟩
  exact oS I (by rw[e];exact True.intro) hs he (wU hl hd (rel.put k rv) dd')
 ·subst ey eH
  cases(show u=Value.ref b from ry);obtain⟨z,hd,xs,rel,dd⟩:=Gc I.hok e;have hz:xs.length<=sizeLine:=by rw[<- Paired.length rel];exact z
  have hl:(cC kvs k v).length<=sizeLine:=by have:=gL kvs k v;omega
  refine wpAny_setItem_heap (hsz:=hz) (tupleKind_room_in1 hu) (uk I.hok eb) dd λh' dd' hs=>h _ ?_;obtain⟨q,es,ep,hq,h2,h3,h4,_,h5⟩:=dd';refine oS I (by rw[e];exact True.intro) hs ⟨q,hq⟩ ⟨hl,hd,_,(rel.put k eb rv).keeps λc ys ec=>?_,q,es,ep,hq,h2,h3,h4,h5⟩;rw[ao (Gh ec e (λz=>nomatch z))];exact ec
end
section
variable {X:Cx}{pins:K6}{σ:St}{H:Hp}{s:K8}{a:Addr}{kvs:List (cS×V)}{k:cS}{u:Value}{A:Lf}{E:K4}
theorem Go{Q:K4}(I:Inv X pins σ H s)(e:Rd H a (.dK kvs))(h:∀t s',Inv X pins σ H s'->Q (.int kvs.length t) s'):wpAny (model X.prog X.w) A (call (.builtin "len") [.ref a]) Q E s:=by
 obtain⟨z,hd,vs,rel,dd⟩:=r_ I.hok e;refine call_len_dict hd dd (by rw[<- rel.length];rw[sizeLine_eq]at z;omega) ?_;rw[<- rel.length];exact h _ _ (I.tok _)
end
noncomputable def GB(i:Expr):Prop:=∀ov iv,subscripted i false ov iv=operate [ov,iv] (getItem ov iv)
theorem Er{prog:Ld}{w:Lg}{A:Lf}{E:K4}{s:K8}{env:Env}{value slice:Expr}{pos:Pos}{T id:String}{Q:K4}
  (hl:typeLookup (.type T) "__getitem__"=pure (some (.builtin id))) (hs:GB slice)
  (h:wpAny (model prog w) A (eval value env) (λo s₁=>wpAny (model prog w) A (eval slice env) (λi s₂=>s₂.TypeIs o T/\wpAny (model prog w) A (getItem o i) Q E s₂) E s₁) E s) :
  wpAny (model prog w) A (eval (.Subscript value slice pos) env) Q E s:=by
 refine Subscript_ (wpAny_mono h (λo s₁ h₁=>wpAny_mono h₁ (λi s₂ h₂=>?_) λ_ _ x=>x) λ_ _ x=>x);obtain⟨hT,h₂⟩:=h₂;unfold subscriptTail;refine wpAny_bind ?_;rw[getitemInPython_of_ne hT.not_modules];refine wpAny_bind (wpAny_specialOf hT hl ?_);have fin:wpAny (model prog w) A (subscripted slice false o i) (λr s₃=>wpAny (model prog w) A (letTemporaryGo value o r >>= λ_=>pure r) Q E s₃) E s₂:=by
  rw[hs o i];exact wpAny_operating (wpAny_mono h₂ (λr s₃ h₃=>wpAny_bind (wpAny_letTemporaryGo (wpAny_pure h₃))) λ_ _ x=>x)
 first
  |exact wpAny_pure (wpAny_bind fin)
  |exact wpAny_bind (wpAny_pure (wpAny_bind fin))
  |exact wpAny_bind fin
theorem va{X:Cx}{pins:K6}{σ:St}{H:Hp}{s:K8}{a:Addr}{y:V}{o:Option V}(I:Inv X pins σ H s)(g:oB H a y o):s.TypeIs (.ref a) "dict":=by
 rcases g with⟨kvs,k,e,_,_⟩ | ⟨kvs,k,b,e,_,_,_⟩
 ·obtain⟨_,_,vs,_,dd⟩:=r_ I.hok e
  exact dd.typeIs
 ·obtain⟨_,_,xs,_,dd⟩:=vw I.hok e
  exact dd.typeIs
noncomputable def Cl(td ty:TE):TE:=λσ H Q=>td σ H λx H1=>ty σ H1 λy H2=>∃a v,x=.ref a/\oB H2 a y (some v)/\Q v H2
noncomputable def tD(ty td:TE):TE:=λσ H Q=>ty σ H λy H1=>td σ H1 λx H2=>∃a o,x=.ref a/\oB H2 a y o/\Q (.bl (!o.isSome)) H2
noncomputable def Bz(td ty tv:TE):TS:=λD σ H=>tv σ H λv H1=>td σ H1 λx H2=>ty σ H2 λy H3=>∃a H4,x=.ref a/\A5 H3 a y v H4/\D.nx σ H4
section
variable {X:Cx}{o i e value:Expr}{pos pos' tpos:Pos}{td ty tv:TE}
theorem uA(hu:X.A.units+1<cLine)(ho:PE X o td)(hi:PE X i ty)(hs:GB i):PE X (.Subscript o i pos) (Cl td ty):=by
 intro pins s σ H Q I h;refine Er PySem.F.slot_dict_getitem.lookup hs (bZ (ho pins s σ H _ I h) λu s1 ⟨x,H1,I1,rx,q1⟩=>bZ (hi pins s1 σ H1 _ I1 q1) λiv s2 ⟨y,H2,I2,ry,a,v,ex,g,q2⟩=>?_);subst ex;obtain rfl:u=Value.ref a:=rx;exact⟨va I2 g,zq hu I2 g ry λw' s3 I3 rw'=>⟨v,H2,I3,rw',q2⟩⟩
theorem rF(hu:X.A.units+1<cLine)(hi:PE X i ty)(ho:PE X o td):PC X .NotIn i o (tD ty td):=by
 intro pins s σ H Q I h;refine bZ (hi pins s σ H _ I h) λiv s1 ⟨y,H1,I1,ry,q1⟩=>bZ (ho pins s1 σ H1 _ I1 q1) λu s2 ⟨x,H2,I2,rx,a,ov,ex,g,q2⟩=>?_;subst ex;obtain rfl:u=Value.ref a:=rx;exact DM hu I2 g ry λs3 I3=>⟨.bl (!ov.isSome),H2,I3,rfl,q2⟩
theorem yL(hu:X.A.units+1<cLine)(ho:PE X o td)(hi:PE X i ty)(hv:PE X value tv)(hs:swapsWith value (some (.Subscript o i pos')) pos.line X.env=pure false) :
  PS X (.Assign [.Subscript o i pos'] value pos) (Bz td ty tv):=by
 intro pins s σ H D I h;refine wpAny_Assign_Subscript (bZ (hv pins s σ H _ I h) λr s1 ⟨v,H1,I1,rv,q1⟩=>bZ (ho pins s1 σ H1 _ I1 q1) λu s2 ⟨x,H2,I2,rx,q2⟩=>bZ (hi pins s2 σ H2 _ I2 q2) λiv s3 ⟨y,H3,I3,ry,a,H4,ex,g,q3⟩=>?_) hs;subst ex;obtain rfl:u=Value.ref a:=rx;exact Bi hu I3 g ry rv λs4 I4=>⟨σ,H4,I4,q3⟩
end
theorem DA{P:Ld}{w:Lg}{H:Hp}(h:Heap)(hb:sysModules<h.objs.size):bS P w H (h.push {cls:=.type "dict",data:=.dict #[]}) h.objs.size (.dK []):=
 ⟨Kw _,beq_eq_false_iff_ne.mpr (Ne.symm (Kr hb)),[],.nil,Heap.DictOf.new h⟩
theorem BW{P:Ld}{w:Lg}{H:Hp}(h:Heap)(hb:sysModules<h.objs.size):bS P w H (h.push {cls:=.type "dict",data:=.dict #[]}) h.objs.size (.dT []):=
 ⟨Kw _,beq_eq_false_iff_ne.mpr (Ne.symm (Kr hb)),[],.nil,_,#[],0,Kd _ rfl,⟨rfl,rfl,rfl⟩,rfl,rfl,List.nodup_nil⟩
noncomputable def xk:TE:=λ_ H Q=>∀p,H p=none->Q (.ref p) (ax H p (.dT []))
section
variable {X:Cx}{pos:Pos}
theorem vW:PE X (.Dict [] [] pos) xk:=λpins s σ H Q I h=>
 wpAny_Dict_empty ⟨.ref s.heap.objs.size,_,I.laid (a:=s.heap.objs.size) (o:=.dT []) (t':=s.toks) (λ_ _ q=>J9 _ q) (Kv _) (BW s.heap I.big),rfl,h _ (I.hok.fresh (Kv _))⟩
end
noncomputable def qz:List (TE×TE)->St->Hp->(List (V×V)->Hp->Prop)->Prop
 | [],_,H,Q=>Q [] H
 | (tk,tv)::r,σ,H,Q=>tk σ H λx H1=>tv σ H1 λy H2=>qz r σ H2 λps H3=>Q ((x,y)::ps) H3
noncomputable abbrev VV:List (V×V)->List (Value×Value)->Prop:=Paired λp q=>bq p.1 q.1/\bq p.2 q.2
noncomputable def GO(X:Cx)(pos:Pos)(keys:List (Option Expr))(values:Li)(trs:List (TE×TE)):Prop:=
 ∀(pins:K6) (s:K8) (σ:St) (H:Hp) (Q:List (V×V)->Hp->Prop),Inv X pins σ H s->qz trs σ H Q ->
  wpAny (model X.prog X.w) X.A (evalPairs (pairTrees keys values X.env pos)) (λvs s'=>∃ps H',Inv X pins σ H' s'/\VV ps vs/\Q ps H') X.xe s
theorem Ep{X:Cx}{pos:Pos}:GO X pos [] [] []:=λpins s σ H Q I h=>pairTrees_nil_walk ⟨[],H,I,.nil,h⟩
theorem Dk{X:Cx}{pos:Pos}{k v:Expr}{ks:List (Option Expr)}{vs:Li}{tk tv:TE}{trs:List (TE×TE)}(hk:PE X k tk)(hv:PE X v tv)(hr:GO X pos ks vs trs) :
  GO X pos (some k::ks) (v::vs) ((tk,tv)::trs):=λpins s σ H Q I h=>
 pairTrees_cons_walk (bZ (hk pins s σ H _ I h) λu s1 ⟨x,H1,I1,rx,q1⟩=>bZ (hv pins s1 σ H1 _ I1 q1) λw2 s2 ⟨y,H2,I2,ry,q2⟩=>
  bZ (hr pins s2 σ H2 _ I2 q2) λws s3 ⟨ps,H3,I3,rel,q3⟩=>⟨(x,y)::ps,H3,I3,.cons ⟨rx,ry⟩ rel,q3⟩)
noncomputable def pN(kvs more:List (cS×V)):List (cS×V):=more.foldl (λacc kv=>cC acc kv.1 kv.2) kvs
theorem KV.merge:∀{more:List (cS×V)} {rs:List (cS×Value)} {kvs:List (cS×V)} {vs:List (cS×Value)},KV more rs->KV kvs vs->KV (pN kvs more) (merged vs rs):=by
 intro more rs kvs vs r;unfold KV at r
 induction r generalizing kvs vs with
 |nil=>intro q;exact q
 | @cons p q ps qs h t ih=>
  intro r0;have e:KV (cC kvs p.1 p.2) (stored vs q.1 q.2):=by
   have:=r0.put p.1 h.2;rw[<- h.1];exact this
  exact ih e
theorem lh:∀(more kvs:List (cS×V)),(pN kvs more).length<=kvs.length+more.length
 | [],kvs=>by show kvs.length<=kvs.length+0;omega
 |p::r,kvs=>by
  have h1:=lh r (cC kvs p.1 p.2);have h2:=gL kvs p.1 p.2;show(pN (cC kvs p.1 p.2) r).length<=_;rw[Ki];omega
theorem qC{P:Ld}{w:Lg}:∀{kvs:List (cS×V)} {ws:List (Value×Value)},VV (kvs.map λkv=>(kV kv.1,kv.2)) ws->∃rs,Carries (cG P w) ws rs/\KV kvs rs
 | [],_,r=>by rw[List.map_nil]at r;cases r;exact⟨[],True.intro,.nil⟩
 |p::kvs,_,r=>by
  rw[KC]at r;cases r with
  | @cons a b as bs h t=>
   obtain⟨rs,c,q⟩:=qC (P:=P) (w:=w) t;obtain⟨b1,b2⟩:=b;exact⟨(p.1,b2)::rs,⟨rX h.1,rfl,c⟩,.cons ⟨rfl,h.2⟩ q⟩
noncomputable def Ch(trs:List (TE×TE)):TE:=λσ H Q=>∀p,H p=none->qz trs σ (ax H p (.dK [])) λps H2=>H2 p=some (.dK [])/\∃kvs:List (cS×V),ps=kvs.map (λkv=>(kV kv.1,kv.2))/\kvs.length<=15/\Q (.ref p) (ax H2 p (.dK (pN [] kvs)))
theorem Ew{X:Cx}{pos:Pos}{keys:List (Option Expr)}{values:Li}{trs:List (TE×TE)}(h:GO X pos keys values trs)(hall:keys.all (·.isSome)=true)(hl:keys.length=values.length)(h0:keys≠[])
  (h15:keys.length<=15):PE X (.Dict keys values pos) (Ch trs):=by
 intro pins s σ H Q I q;have hn:=I.hok.fresh (Kv s.heap.objs.size);have I1:=I.laid (a:=s.heap.objs.size) (o:=.dK []) (h':=s.heap.push {cls:=.type "dict",data:=.dict #[]}) (t':=s.toks) (λ_ _ q=>J9 _ q) (Kv _) (DA s.heap I.big);refine wpAny_Dict_walk (knd:=cG X.prog X.w) hall hl h0 h15 (bZ (h pins _ σ _ _ I1 (q _ hn)) λws s2 ⟨ps,H2,I2,rel,e,kvs,ep,lk,q2⟩=>?_);subst ep;obtain⟨rs,c,rk⟩:=qC (P:=X.prog) (w:=X.w) rel;obtain⟨z,hd,vs0,r0,dd⟩:=Bq I2.hok e;cases r0;refine⟨rs,c,dd,λh' dd' hs=>⟨.ref s.heap.objs.size,_,?_,rfl,q2⟩⟩;have hz:(pN [] kvs).length<=sizeLine:=by
  have h1:=lh kvs [];rw[List.length_nil]at h1;rw[sizeLine_eq];omega
 have he:∃q,h'.get? s.heap.objs.size=some q:=let ⟨q,_,_,hq,_⟩:=dd';⟨q,hq⟩
 exact oS I2 (by rw[e];exact True.intro) hs he (wU hz hd (rk.merge .nil) dd')
structure M1(X:Cx)(o:Expr)(m:Str)(apos:Pos)(e:Expr)(cpos:Pos):Prop where
 base:attributeBase o m X.env (eval o X.env)=eval o X.env
 few:((backTo cpos (starEach [e] X.env)).all (λx=>!x.1)&&(backToKw cpos (keywordEach [] X.env)).all (λx=>x.1.isSome)
  && decide (([e]:List Expr).length+([]:List Keyword).length+(if([]:List Keyword).isEmpty then 0 else 1)<30))=true
 line:(apos.endLine==cpos.line)=true
 trees:backTo cpos (starEach [e] X.env)=[(false,eval e X.env)]
structure M2(X:Cx)(o:Expr)(m:Str)(apos:Pos)(e f:Expr)(cpos:Pos):Prop where
 base:attributeBase o m X.env (eval o X.env)=eval o X.env
 few:((backTo cpos (starEach [e,f] X.env)).all (λx=>!x.1)&&(backToKw cpos (keywordEach [] X.env)).all (λx=>x.1.isSome)
  && decide (([e,f]:List Expr).length+([]:List Keyword).length+(if([]:List Keyword).isEmpty then 0 else 1)<30))=true
 line:(apos.endLine==cpos.line)=true
 trees:backTo cpos (starEach [e,f] X.env)=[(false,eval e X.env),(false,eval f X.env)]
noncomputable def Hq(H:Hp)(a:Addr):Prop:=(∃kvs,Rd H a (.dK kvs))\/∃kvs,Rd H a (.dT kvs)
theorem Fj{X:Cx}{pins:K6}{σ:St}{H:Hp}{s:K8}{a:Addr}(I:Inv X pins σ H s)(d:Hq H a) :
  s.TypeIs (.ref a) "dict"/\(∀b,Value.ref a=.ref b->∃ob,s.heap.get? b=some ob/\ob.dict=none)/\(a==sysModules)=false:=by
 rcases d with⟨kvs,e⟩ | ⟨kvs,e⟩
 ·obtain⟨_,hd,vs,_,dd⟩:=r_ I.hok e
  refine⟨dd.typeIs,λb q=>?_,hd⟩;cases q;obtain⟨ob,_,_,h1,h2,_⟩:=dd;exact⟨ob,h1,h2.2.1⟩
 ·obtain⟨_,hd,xs,_,dd⟩:=vw I.hok e
  refine⟨dd.typeIs,λb q=>?_,hd⟩;cases q;obtain⟨ob,_,_,h1,h2,_⟩:=dd;exact⟨ob,h1,h2.2.1⟩
section
variable {X:Cx}{pins:K6}{σ:St}{H:Hp}{s:K8}{a:Addr}{y d:V}{u r:Value}{o:Option V}{A:Lf}{E:K4}
end
section
variable {X:Cx}{o e f:Expr}{apos cpos:Pos}{td ty tx:TE}
end
section
variable {X:Cx}{pins:K6}{σ:St}{H:Hp}{s:K8}{a:Addr}{kvs:List (cS×V)}{A:Lf}{E:K4}
end
section
variable {X:Cx}{pins:K6}{σ:St}{H:Hp}{s:K8}{a:Addr}{y:V}{u:Value}{A:Lf}{E:K4}
end
end L2
namespace Att
open PySem PySem.W PySem.Calls PyProof.Rows
theorem oA{P:Params}{h:Heap}:∀(ns:List Int) (vs:K9),WellAll P h vs (ns.map WData.int)->IntsAre vs ns:=by
 intro ns
 induction ns with
 |nil=>
  intro vs w;rw[List.map_nil]at w;cases w;exact .nil
 |cons n ns ih=>
  intro vs w;rw[KC]at w;cases w with
  |cons a b=>
   cases a;exact .cons _ _ (ih _ b)
theorem zW{l:OpenLaw}{n:Nat}(hn:l.most=some n){P:Params}{h:Heap}{args:List WData}{vals:K9}
  (hpre:l.row.toRowW.claim.pre args=true) (hwl:WellAll P h vals args) :
  ∃a vs ns,vals=[Value.ref a]/\args=[WData.list (ns.map WData.int)]/\h.get? a=some {cls:=.type "list",data:=.seq vs.toArray}/\IntsAre vs ns/\ns.length<=n:=by
 have hsh:WShape.hasAll [] args [.list .int]=true:=(pre_splitW hpre).1;have hc:l.pre.holds [] {args:=args}=true:=(pre_splitW hpre).2;obtain⟨d,r,rfl,h1,h2⟩:=hasAllW_cons hsh;obtain rfl:=hasAllW_nil h2;obtain⟨xs,rfl,h3⟩:=hasW_list h1;obtain⟨ns,rfl⟩:=items_int h3;have hlen:ns.length<=n:=by
  unfold OpenLaw.pre at hc;have h4:(WTm.not (.lt (.lit (.int (n:Int))) (.len (.arg 0)))).holds [] {args:=[.list (ns.map .int)]}=true:=by
   have h4:=(holds_andW hc).1;rw[hn]at h4;exact h4
  have h5:=condW_of h4 (w_not (w_lt w_lit (w_len_list (w_arg rfl))));rw[J_]at h5;refine Nat.le_of_not_lt λq=>?_;have q':(n:Int)<((ns.length:Nat):Int):=by omega
  first
   | (rw[decide_eq_true q']at h5;exact absurd h5 nofun)
   | (simp at h5;omega)
 cases hwl with
 |cons w1 w2=>
  cases w2;cases w1 with
  |list ho hall=>exact⟨_,_,ns,rfl,rfl,ho,oA ns _ hall,hlen⟩
theorem Ap(l:OpenLaw)(args:List WData):l.row.toRowW.claim.post args (.bool true) args=true:=
 postW_of (r:=l.row.toRowW) (X:=(true==true))
  (show WShape.has [] (.bool true) .bool=true by first | rfl | decide | simp[WShape.has,WShape.arms,WShape.armsAll])
  (show(WTm.eq .res (.lit (.bool true))).value [] {args:=args,res:=some (.bool true),after:=args}=some (.bool (true==true)) from w_eq_bool (w_res rfl) w_lit) rfl
theorem attach_call{l:OpenLaw}{n:Nat}{q:Ld}{loose:Le}{XP:(Str->Option Value)->Heap->Prop}{YP:World->Heap->Prop}{d:DefRec}
  (hn:l.most=some n) (hdf:d.params.defaults=[])
  (call:∀(w:Lg) (s₀ s₁:K8) (mg mb:Lb) (fa:Addr) (o:Obj) (pm cd doc:Value) (a:Addr) (vs:K9) (ns:List Int),
   Ground q loose [] XP w s₀ mg mb s₁.heap->YP w s₁.heap ->
   s₁.heap.get? fa=some o->o.data=.func (docDef d.name d.params d.body d.scope pm cd doc)->s₁.heap.CodeRec cd d.name->mg d.name=some (.ref fa) ->
   s₁.heap.get? a=some {cls:=.type "list",data:=.seq vs.toArray}->IntsAre vs ns->ns.length<=n->s₁.gens=#[] ->
   codeAny (model l.prog w) callerA (.call (.ref fa) ⟨[.ref a],[]⟩) (λr s'=>r=.ok (.ret (.bool true))/\OldK s₁.heap s'.heap/\s'.os=s₁.os/\AllBare s'.gens) s₁) :
  WalkO q loose XP YP l.row.toRowW d [] (λf vs=>PySem.call f vs):=by
 intro w s₀ s₁ mg mb G Y fa o pm cd doc dV kV ho hd hcd hD hmg hg args vals as hpre hlay hrd hwl hlo;obtain rfl:dV=.none:=Dflts.none hD hdf;obtain rfl:kV=.none:=Dflts.noKw hD;obtain⟨a,vs,ns,rfl,rfl,hobj,hints,hlen⟩:=zW hn hpre hwl;refine enter_call (codeAny_mono (call w s₀ s₁ mg mb fa o pm cd doc a vs ns G Y ho (fd_plain hd) hcd hmg hobj hints hlen hg) λr s' hq=>?_);obtain⟨rfl,h2,h3,h4⟩:=hq;exact⟨.inl ⟨.bool true,.bool true,[],rfl,λ_=>rfl,.bool true,Ap l _,λ_=>⟨List.Pairwise.nil,λ_ hm=>(nomatch hm)⟩⟩,h2,h3,h4⟩
section
variable {prog:Ld}{w:Lg}{A:Lf}{E:K4}{s:K8}{K:Frag}
noncomputable def He(h:Heap)(L d:Addr):List (Addr×Obj):=(List.range h.objs.size).filterMap λa=>if a=L\/a=d then none else(h.get? a).map λo=>(a,o)
end
end Att
namespace L2
open PySem PySem.Spec PyProof.Rows
theorem rT:∀{vs:K9} {ns:List Int},IntsAre vs ns->bg (ns.map V.int) vs
 |_,_,.nil=>.nil
 |_,_,.cons n t h=>.cons ⟨t,rfl⟩ (rT h)
noncomputable def Fg(H:Hp):Prop:=∀b,H b=none\/∃o xs,H b=some (.frz o (.lst xs))
theorem BX{P:Ld}{w:Lg}{K:K5}{mg mb:Lb}{CX:k8}{k:Nat}{fa a:Addr}{fd:Lc}{x:Str}{sp:Sp}{s₁:K8}{vs:K9}{ns:List Int}
  (KX:K.In s₁.heap) (hns:s₁.heap.Ns mainGlobals mg) (hb:s₁.heap.Ns builtinsNs mb) (hbb:∀x:Str,x≠"__name__"->mb x=bootBuiltins x) (hlim:s₁.heap.NoLimit) (hg:s₁.gens=#[])
  (ha:s₁.heap.get? a=some {cls:=.type "list",data:=.seq vs.toArray}) (hi:IntsAre vs ns) (hl:ns.length<=sizeLine) (hr:dr k callerA)
  (F:∀base:Heap,K.In base->base.Ns mainGlobals mg->aQ P w K mg base CX k fa fd [x] sp) (hbind:∀(s:K8) (u:Value),BindsTo s fd ⟨[u],[]⟩ [(x,u)])
  (hsp:∀H:Hp,Fg H->aS K H a (ns.map V.int)->sp [.ref a] H (λv _=>v=.bl true) λ_ _ _=>False)
  (hCX:∀H e s',CX [] H s₁ (λ_ _ _=>False) e s'->False) :
  codeAny (model P w) callerA (.call (.ref fa) ⟨[.ref a],[]⟩) (λr s'=>r=.ok (.ret (.bool true))/\OldK s₁.heap s'.heap/\s'.os=s₁.os/\AllBare s'.gens) s₁:=by
 have rv:=rT hi;have lenV:=hi.length
 -- from an abstract heap in which nothing but the script may be tracked
 have core:∀H:Hp,Fg H->aS K H a (ns.map V.int)->km P w H s₁.heap->(∀b,H b≠none->b=a)->(H a≠none->K.lookup a=none) ->
   codeAny (model P w) callerA (.call (.ref fa) ⟨[.ref a],[]⟩) (λr s'=>r=.ok (.ret (.bool true))/\OldK s₁.heap s'.heap/\s'.os=s₁.os/\AllBare s'.gens) s₁:=by
  intro H hO hS hok hA hK;have base_of:∀{b:Addr} {o:Obj},s₁.heap.get? b=some o->H b=none->(uF s₁.heap H).get? b=some o:=λe n=>BF e n;have noA:∀{b:Addr} {o:Obj} {es:Array DictEntry} {ep:Nat},s₁.heap.get? b=some o->o.data=.dict es ep->H b=none:=fun{b o es ep} e d=>by
   cases q:H b with
   |none=>rfl
   |some u=>
    have e':b=a:=hA b (by rw[q];simp);subst e';rw[ha]at e;cases e
    have d':Data.seq vs.toArray _=Data.dict es ep:=d;cases d'
  have nsK:∀{b:Addr} {m:Lb},s₁.heap.Ns b m->(uF s₁.heap H).Ns b m:=fun{b m} ⟨o,es,ep,e,d,r⟩=>⟨o,es,ep,base_of e (noA e d),d,r⟩;have hKb:K.In (uF s₁.heap H):=λb o e=>base_of (KX b o e) (by
   cases q:H b with
   |none=>rfl
   |some u=>
    have e':b=a:=hA b (by rw[q];simp);subst e';rw[hK (by rw[q];simp)]at e;cases e)
  have hM:Mod K mg (uF s₁.heap H):=⟨hKb,nsK hns,⟨mb,nsK hb,hbb⟩,let ⟨mc,h1,h2⟩:=hlim;⟨mc,nsK h1,h2⟩⟩;have e0:vb P w K mg (uF s₁.heap H) callerA [] s₁ H:=⟨rfl,hM,λb o e=>DL e,Nat.le_of_eq (AY _ _),trivial,λb hb=>absurd (show b∈([]:List Addr) from hb) (by simp),hok,.of_eq hg⟩;refine codeAny_mono ((F _ hKb (nsK hns)).run callerA [] s₁ H ⟨[.ref a],[]⟩ [.ref a] [.ref a] _ _ hr e0 (hbind s₁ (.ref a)) (.cons rfl .nil) (hsp H hO hS)) λr s' h=>?_;cases r with
  |error e=>exact(hCX H e s' h).elim
  |ok fl=>
   cases fl with
   |next=>exact False.elim h
   |brk=>exact False.elim h
   |cont=>exact False.elim h
   |ret u=>
    obtain⟨v,H',os,bare,un,hok',r',q⟩:=h;have q':v=.bl true:=q;subst q';obtain rfl:u=Value.bool true:=r';refine⟨rfl,OldK.of_keep λb o e=>?_,os,bare⟩;cases q:H b with
    |none=>exact un.keep b o e q (by intro z;exact absurd (show b∈([]:List Addr) from z) (by simp)) (by simp)
    |some u=>
     rcases hO b with z | ⟨ob,xs,z⟩
     ·rw[q]at z;cases z
     ·have z2:=un.frzs b ob _ z
      obtain⟨e1,_⟩:=hok b _ z;obtain⟨e2,_⟩:=hok' b _ z2;rw[e]at e1;cases e1
      exact e2
 cases hk:K.lookup a with
 |some o=>
  -- the script is one of the module's own objects
  have e:=KX a o hk;rw[ha]at e;cases e;refine core (λ_=>none) (λ_=>.inl rfl) (.inr ⟨_,vs.toArray,_,hk,rfl,rfl,rfl,by rw[Ke,lenV];exact hl,by simpa using rv⟩) (λb u z=>by have z':(none:Option HO)=some u:=z;cases z') (λb z=>absurd rfl z) λz=>absurd rfl z
 |none=>
  refine core (λb=>if b=a then some (.frz {cls:=.type "list",data:=.seq vs.toArray} (.lst (ns.map V.int))) else none) (λb=>?_) (.inl (.inr ⟨{cls:=.type "list",data:=.seq vs.toArray},if_pos rfl⟩)) (λb u z=>?_) (λb z=>?_) λ_=>hk
  ·by_cases hb:b=a
   ·exact .inr ⟨_,_,if_pos hb⟩
   ·exact .inl (if_neg hb)
  ·by_cases hb:b=a
   ·have z':=(if_pos hb).symm.trans z
    cases z';subst hb;exact⟨ha,by rw[J_];exact hl,vs,_,rv,ha⟩
   ·have z':=(if_neg hb).symm.trans z
    cases z'
  ·by_cases hb:b=a
   ·exact hb
   ·exact absurd (if_neg hb) z
theorem walk_of{l:PySem.W.OpenLaw}{n k:Nat}{q:Ld}{loose:Le}{XP:(Str->Option Value)->Heap->Prop}{YP:World->Heap->Prop}{d:DefRec}{K:Params->PySem.W.Frag}{CX:World->k8}{sp:World->Sp}{x:Str}
  (hn:l.most=some n) (hn2:n<=sizeLine) (hdf:d.params.defaults=[]) (hr:dr k callerA)
  (hY:∀(w:Lg) (h:Heap),YP w h->(K w.params).In h)
  (F:∀(w:Lg) (mg:Lb) (fa:Addr) (h:Heap),(K w.params).In h->h.Ns mainGlobals mg->mg d.name=some (.ref fa) ->
   ∃fd:FuncData,(∀(s:K8) (u:Value),BindsTo s fd ⟨[u],[]⟩ [(x,u)]) /\
    ∀base:Heap,(K w.params).In base->base.Ns mainGlobals mg->aQ l.prog w (K w.params) mg base (CX w) k fa fd [x] (sp w))
  (hsp:∀(w:Lg) (H:Hp) (a:Addr) (ns:List Int),ns.length<=n->Fg H->aS (K w.params) H a (ns.map V.int)->sp w [.ref a] H (λv _=>v=.bl true) λ_ _ _=>False)
  (hCX:∀(w:Lg) (H:Hp) (s:K8) (e:Value) (s':K8),CX w [] H s (λ_ _ _=>False) e s'->False) :
  PySem.W.WalkO q loose XP YP l.row.toRowW d [] (λf vs=>PySem.call f vs):=by
 refine Att.attach_call hn hdf λw s₀ s₁ mg mb fa o pm cd doc a vs ns G Y ho hd hcd hmg hobj hints hlen hg=>?_;have KX:=hY w _ Y;obtain⟨fd,hb,hF⟩:=F w mg fa _ KX G.T.g hmg;exact BX KX G.T.g G.T.b G.T.builtins G.T.nolimit hg hobj hints (KD hlen hn2) hr hF hb (λH hO hS=>hsp w H a ns hlen hO hS) λH e s'=>hCX w H s₁ e s'
noncomputable def aT(s:Stmt):Arguments:=match s with
 | .FunctionDef _ a _ _ _ _ _ _ _ _=>a
 |_=>{posonlyargs:=[],args:=[],vararg:=none,kwonlyargs:=[],kw_defaults:=[],kwarg:=none,defaults:=[]}
noncomputable def aP(s:Stmt):List Stmt:=match s with
 | .FunctionDef _ _ b _ _ _ _ _ _ _=>b
 |_=>[]
noncomputable def ai(s:Stmt):Scope:=match s with
 | .FunctionDef _ _ _ _ _ _ sc _ _ _=>sc
 |_=>{kind:=.function,names:=[],isGenerator:=false,isCoroutine:=false}
noncomputable abbrev bG:k8:=λ_ _ _ _ _ _=>False
noncomputable abbrev E0:XK:=λ_ _ _=>False
theorem ba{X:Cx}:cZ bG X E0:=λ_ _ _ _ _ _ _ h=>h.elim
structure cy(K:K5)(x qual:Str)(st:Stmt)(f:Addr)(fd:Lc):Prop where
 ex:∃(oc:Value) (od:Lh) (kV doc pm:Value) (an:Lh) (cdv ct:Value) (osl:Array (Option Value)),
  fd=PySem.W.fnOf x qual (aT st) (aP st) (ai st) .none kV doc pm an cdv ct/\K.lookup f=some ⟨oc,od,.func fd,osl⟩/\PySem.W.codeIn K cdv qual=true
 kp:PySem.W.keepIn K (.ref f)=true
section
variable {P:Ld}{w:Lg}{K:K5}{mg:Lb}{base:Heap}
theorem cy.ok{x qual:Str}{st:Stmt}{f:Addr}{fd:Lc}{N ps:Le}{k:Nat}{sp:Sp}(F:cy K x qual st f fd)(S:av N ps (ai st))(len:∀vs H Q E,sp vs H Q E->vs.length=ps.length)
  (hbody:∀(cdv:Value) (A:Lf) (outer:List Env) (s:K8) (H:Hp) (vs:List V) (Q:VK) (E:XK),dr k (A.deeper (envOfC qual (ai st) s.heap.objs.size f cdv))->sp vs H Q E ->
   ∃t,wx (gy bG P w K mg base N qual (ai st) f cdv A outer s H E).nox (aP st) t/\t {nx:=λ_ H'=>Q .non H',rt:=Q} (start N vs) H):aQ P w K mg base bG (k+1) f fd ps sp:=by
 obtain⟨oc,od,kV,doc,pm,an,cdv,ct,osl,rfl,lk,hcd⟩:=F.ex;refine ER lk hcd S len λA outer s H vs Q E hr hsp=>?_;obtain⟨t,h,q⟩:=hbody cdv A outer s H vs Q E hr hsp;exact⟨t,h.nox,q⟩
theorem cy.binds{x qual:Str}{st:Stmt}{f:Addr}{fd:Lc}{ps:Le}(F:cy K x qual st f fd)
  (h:∀(kV doc pm:Value) (an:Lh) (cdv ct:Value) (us:K9),us.length=ps.length->bindArgs (PySem.W.fnOf x qual (aT st) (aP st) (ai st) .none kV doc pm an cdv ct) ⟨us,[]⟩=pure (ps.zip us)):cn K fd ps []:=by
 obtain⟨oc,od,kV,doc,pm,an,cdv,ct,osl,rfl,lk,hcd⟩:=F.ex;exact .all (h kV doc pm an cdv ct)
theorem bC{x qual:Str}{st:Stmt}{f:Addr}{oc:Value}{od an:Lh}{osl:Array (Option Value)}{kV doc pm cdv ct:Value}(l:K.lookup f=some ⟨oc,od,.func (PySem.W.fnOf x qual (aT st) (aP st) (ai st) .none kV doc pm an cdv ct),osl⟩)
  (c:PySem.W.codeIn K cdv qual=true) (k:PySem.W.keepIn K (.ref f)=true):cy K x qual st f (PySem.W.fnOf x qual (aT st) (aP st) (ai st) .none kV doc pm an cdv ct):=⟨⟨oc,od,kV,doc,pm,an,cdv,ct,osl,rfl,l,c⟩,k⟩
end
section
variable {X:Cx}
theorem pv(i:Nat){x:Str}{pos:Pos}(hN:autoParam (X.N[i]?=some x) zz0._auto_1)(hv:autoParam (GK X.env.scope x) zz6._auto_1)(hd:autoParam ((x==("__debug__":Str))=false) zz1._auto_1)
  (hcd:autoParam ((x==("__classdict__":Str))=false) zz1._auto_1):PE X (.Name x pos) (Ba i):=FV hN hv hd hcd
theorem sr:gI X (.builtin "len") (λxs H Q=>∃a kvs,xs=[V.ref a]/\H a=some (.dK kvs)/\Q (.int kvs.length) H):=by
 intro pins s σ H xs us Q I r h;obtain⟨a,kvs,rfl,ha,q⟩:=h;obtain⟨u,rfl,ru⟩:=vS r;cases ru;exact Go I (.inl ha) λt s' I'=>⟨.int kvs.length,H,I',⟨t,rfl⟩,q⟩
end
noncomputable def az(H H':Hp):Prop:=∀b o,H b=some o->H' b=some o
theorem az.refl(H:Hp):az H H:=λ_ _ h=>h
theorem az.trans{H H1 H2:Hp}(a:az H H1)(b:az H1 H2):az H H2:=λc o h=>b c o (a c o h)
theorem az.free{H H':Hp}(e:az H H'){l:Addr}(h:H' l=Option.none):H l=Option.none:=by
 cases q:H l with
 |none=>rfl
 |some o=>
  rw[e l o q]at h;cases h
theorem az.seq{K:K5}{H H':Hp}{a:Addr}{xs:List V}(e:az H H')(h:aS K H a xs):aS K H' a xs:=by
 rcases h with(h | ⟨o,h⟩) | h
 ·exact .inl (.inl (e _ _ h))
 ·exact .inl (.inr ⟨o,e _ _ h⟩)
 ·exact .inr h
section
variable {κ:Type}[DecidableEq κ]
theorem u8{kvs:List (κ×V)}{k:κ}(h:cg kvs k=none):¬ k∈kvs.map (·.1):=by
 intro m;obtain⟨p,hp,e⟩:=KQ.mp m;have q:(kvs.any λkv=>decide (kv.1=k))=true:=List.any_eq_true.mpr ⟨p,hp,decide_eq_true e⟩;rw[fE,h]at q;exact absurd q (by simp)
theorem D3{kvs:List (κ×V)}{k:κ}{v:V}(h:cg kvs k=some v):k∈kvs.map (·.1):=by
 have q:(kvs.any λkv=>decide (kv.1=k))=true:=by
  rw[fE,h]
  all_goals rfl
 obtain⟨p,hp,e⟩:=List.any_eq_true.mp q;exact KQ.mpr ⟨p,hp,of_decide_eq_true e⟩
theorem yq:∀{l:List κ} {k:κ},l.Nodup->¬ k∈l->(l++[k]).Nodup
 | [],k,_,_=>by simp
 |a::r,k,h,hk=>by
  obtain⟨h1,h2⟩:=List.nodup_cons.mp h;show(a::(r++[k])).Nodup;refine List.nodup_cons.mpr ⟨λm=>?_,yq h2 λm=>hk (Km.mpr (Or.inr m))⟩;rcases Kk.mp m with q | q
  ·exact h1 q
  ·exact hk (Km.mpr (Or.inl (J'.mp q).symm))
theorem Ez{kvs:List (κ×V)}{k:κ}(v:V)(hn:(kvs.map (·.1)).Nodup)(h:cg kvs k=none):((cC kvs k v).map (·.1)).Nodup:=by
 rw[pV v h,Kj];exact yq hn (u8 h)
end
end L2
namespace PySem
open Sem (wp)
open Builtin Builtin.Str Builtin.Int
namespace F
theorem nJ:Manifest.owners.lookup "reversed"=some Manifest.sig_reversed:=by kernel_rfl
theorem slot_rvs_next:Slot "reversed" "__next__" "reversed.__next__":=
 .of (owner:="reversed") (n:="__next__") (by rw[typeLookup_type,builtinLookup_eq_fast];kernel_rfl) (by decide +kernel) (by decide +kernel) (by decide +kernel)
  (by first | exact .inl (by decide +kernel) | exact .inr (by decide +kernel)) (by rw[isSubtype_type];kernel_rfl)
theorem entry_rvs_next:entryFor table "reversed.__next__"=some Builtin.«reversed.__next__»:=entryFor_of_tree (by kernel_rfl)
theorem slot_rvs_iter:Slot "reversed" "__iter__" "reversed.__iter__":=
 .of (owner:="reversed") (n:="__iter__") (by rw[typeLookup_type,builtinLookup_eq_fast];kernel_rfl) (by decide +kernel) (by decide +kernel) (by decide +kernel)
  (by first | exact .inl (by decide +kernel) | exact .inr (by decide +kernel)) (by rw[isSubtype_type];kernel_rfl)
theorem nolen_rvs:typeLookup (.type "reversed") "__len__"=pure none:=by rw[typeLookup_type,builtinLookup_eq_fast];kernel_rfl
theorem hint_rvs:typeLookup (.type "reversed") "__length_hint__"=pure (some (.builtin "reversed.__length_hint__")):=by rw[typeLookup_type,builtinLookup_eq_fast];kernel_rfl
theorem args_rvs_next_1(a:Value):argsOk "reversed.__next__" ⟨[a],[]⟩:=by
 unfold argsOk;rw[signature?_of (id:="reversed.__next__") (n:=['_','_','t','x','e','n','_','_']) (o:=['d','e','s','r','e','v','e','r']) (by kernel_rfl) nJ];kernel_rfl
theorem args_rvs_iter_1(a:Value):argsOk "reversed.__iter__" ⟨[a],[]⟩:=by
 unfold argsOk;rw[signature?_of (id:="reversed.__iter__") (n:=['_','_','r','e','t','i','_','_']) (o:=['d','e','s','r','e','v','e','r']) (by kernel_rfl) nJ];kernel_rfl
theorem entry_rvs_iter:entryFor table "reversed.__iter__"=some Builtin.«dict_keyiterator.__iter__»:=
 entryFor_alias (id':="dict_keyiterator.__iter__") (by kernel_rfl) (by first | rfl | decide +kernel | (unfold String.splitOn;simp +decide [String.splitOnAux])) (by decide +kernel) (by kernel_rfl)
theorem slot_rvs_hint:Slot "reversed" "__length_hint__" "reversed.__length_hint__":=
 .of (owner:="reversed") (n:="__length_hint__") (by rw[typeLookup_type,builtinLookup_eq_fast];kernel_rfl) (by decide +kernel) (by decide +kernel) (by decide +kernel)
  (by first | exact .inl (by decide +kernel) | exact .inr (by decide +kernel)) (by rw[isSubtype_type];kernel_rfl)
theorem entry_rvs_hint:entryFor table "reversed.__length_hint__"=some Builtin.«reversed.__length_hint__»:=entryFor_of_tree (by kernel_rfl)
theorem args_rvs_hint_1(a:Value):argsOk "reversed.__length_hint__" ⟨[a],[]⟩:=by
 unfold argsOk;rw[signature?_of (id:="reversed.__length_hint__") (n:=['_','_','t','n','i','h','_','h','t','g','n','e','l','_','_']) (o:=['d','e','s','r','e','v','e','r']) (by kernel_rfl) nJ];kernel_rfl
end F
section
variable {prog:Ld}{w:Lg}{A:Lf}{E:K4}{s:K8}
noncomputable def wE(x:Str)(t:Tok)(i:Int):Obj:={cls:=.type "reversed",data:=.fields #[.str x t,rawInt i]}
noncomputable def Heap.IsRvs(h:Heap)(a:Addr)(x:Str)(t:Tok)(i:Int):Prop:=∃o,h.get? a=some o/\o.cls=.type "reversed"/\o.data=.fields #[.str x t,rawInt i]
theorem Heap.IsRvs.typeIs{a:Addr}{x:Str}{t:Tok}{i:Int}(y:s.heap.IsRvs a x t i):s.TypeIs (.ref a) "reversed":=let ⟨o,ho,hc,_⟩:=y;⟨o,ho,hc⟩
theorem Heap.IsRvs.at{h h':Heap}{a:Addr}{x:Str}{t:Tok}{i:Int}(y:h.IsRvs a x t i)(e:∀o,h.get? a=some o->h'.get? a=some o):h'.IsRvs a x t i:=let ⟨o,ho,r⟩:=y;⟨o,e _ ho,r⟩
theorem ji{it:Addr}{x:Str}{t:Tok}{i c:Nat}{Q:Option Value->Shared->Prop}(hit:s.heap.IsRvs it x t (i:Int))(hx:x.cps[i]?=some c)(hsz:i<2 ^ 63)
  (hQ:∀h' tk tk',h'.IsRvs it x t ((i:Int)-1)->Heap.SameBut it s.heap h'->Q (some (.str ⟨#[c]⟩ tk)) {s with heap:=h',toks:=tk' }):wpAny (model prog w) A (pyNext (.ref it)) Q E s:=by
 obtain⟨o,ho,hc,hd⟩:=id hit;have hlen:i<x.length:=(Array.getElem?_eq_some_iff.mp hx).1;unfold pyNext;refine wpAny_bind (wpAny_attempt (wpAny_callSpecial?_slot (name:=Str.ofString "__next__") hit.typeIs F.slot_rvs_next
  (wpAny_call_entry F.slot_rvs_next hit.typeIs F.entry_rvs_next ?_ (F.args_rvs_next_1 _))))
 unfold Builtin.«reversed.__next__»;refine wpAny_bind (wpAny_of_eq (a:=(Value.ref it,[])) rfl ?_)
 try dsimp only
 refine wpAny_bind (wpAny_field ho hd (x:=.str x t) rfl ?_);refine wpAny_bind (wpAny_field ho hd (x:=rawInt (i:Int)) rfl ?_);show wpAny _ _ (if(i:Int)<0 then _ else _) _ _ s;rw[if_neg ⋯];refine wpAny_bind (wpAny_specialOf (typeIs_str s x t) F.slot_str_getitem.lookup ?_)
 try dsimp only
 first
 |rw[if_neg (show ¬ ((some (Value.builtin "str.__getitem__")).isNone=true) from Kx)]
 |skip
 refine wpAny_bind (wpAny_mkInt ?_);refine wpAny_bind (wpAny_attempt ?_);have hb:(seqIndex? (i:Int) x.length).bind (x.cps[·]?)=some c:=by
  have e:seqIndex? (i:Int) x.length=some i:=by
   have hn:¬ ((i:Int)<0):=by omega
   unfold seqIndex?;simp[hn,hlen]
  rw[e];exact hx
 refine P.getItem_str (c:=c) (by simp;omega) hb ?_;dsimp only;refine wpAny_bind (wpAny_field ho hd (x:=rawInt (i:Int)) rfl ?_);show wpAny _ _ (setField (Value.ref it) 1 (rawInt ((i:Int)-1)) >>= λ_=>ret (Value.str ⟨#[c]⟩ _)) _ _ _;refine wpAny_bind (wpAny_setField ho hd (by simp) ?_);refine wpAny_pure ⟨_,rfl,wpAny_pure (hQ _ _ _ ?_ (Heap.SameBut.update ..))⟩;exact⟨_,Kh _ ho (Obj.isFreed_of_fields (Obj.data_mapFields hd _)),(Obj.cls_mapFields ..).trans hc,by
  rw[Obj.data_mapFields hd];simp⟩
theorem jq{it:Addr}{x:Str}{t:Tok}{Q:Option Value->Shared->Prop}(hh:A.handled=none)(hit:s.heap.IsRvs it x t (-1))
  (hQ:∀h',Heap.ExtBut it s.heap h'->Q none {s with heap:=h' }):wpAny (model prog w) A (pyNext (.ref it)) Q E s:=by
 obtain⟨o,ho,hc,hd⟩:=id hit;unfold pyNext;refine wpAny_bind (wpAny_attempt (wpAny_callSpecial?_slot (name:=Str.ofString "__next__") hit.typeIs F.slot_rvs_next
  (wpAny_call_entry F.slot_rvs_next hit.typeIs F.entry_rvs_next ?_ (F.args_rvs_next_1 _))))
 unfold Builtin.«reversed.__next__»;refine wpAny_bind (wpAny_of_eq (a:=(Value.ref it,[])) rfl ?_)
 try dsimp only
 refine wpAny_bind (wpAny_field ho hd (x:=.str x t) rfl ?_);refine wpAny_bind (wpAny_field ho hd (x:=rawInt (-1)) rfl ?_);show wpAny _ _ (if(-1:Int)<0 then _ else _) _ _ s;rw[if_pos nofun];refine wpAny_bind (wpAny_rule ?_);show wpAny _ _ ((setField (Value.ref it) 1 (rawInt (-1)) >>= λ_=>setField (Value.ref it) 0 .none) >>= _) _ _ _;refine wpAny_bind (wpAny_bind (wpAny_setField ho hd (by simp) ?_));have ho1:=Kh (Obj.mapFields (·.setIfInBounds 1 (rawInt (-1)))) ho (Obj.isFreed_of_fields (Obj.data_mapFields hd _));refine wpAny_setField ho1 (Obj.data_mapFields hd _) (by simp) ?_;dsimp only;show wpAny _ _ (SmallTypes.stopIteration >>= _) _ _ _;refine wpAny_bind ?_;unfold SmallTypes.stopIteration
 first
 |show wpAny _ _ (newExc (.type "StopIteration") [] >>= _) _ _ _
 | (refine wpAny_bind ?_;show wpAny _ _ (newExc (.type "StopIteration") [] >>= _) _ _ _)
 refine wpAny_bind ?_;simp only[newExc,newTuple];refine wpAny_bind (wpAny_newObj_type ?_ (by size_fits));refine wpAny_bind (m:=firstArgMember _ _) (wpAny_of_eq (a:=Value.none) (by first | rfl | (simp only[firstArgMember];rfl)) ?_);refine wpAny_newObj_type ?_ (by size_fits);simp only[raiseNew];refine wpAny_bind (wpAny_handled ?_)
 first | rw[show A.in1.handled=none from hh] | rw[hh]
 refine wpAny_bind (wpAny_pure (wpAny_throw ?_));refine wpAny_bind (wpAny_isInstance (T:="StopIteration") (b:=true) ⟨_,Kd _ rfl,rfl⟩ isSubtype_stop ?_);refine wpAny_pure (hQ _ ?_);intro b ob hb eb;exact J9 _ (J9 _ ((Kc _ _ (Ne.symm hb)).trans ((Kc _ _ (Ne.symm hb)).trans eb)))
theorem ia{it:Addr}{x:Str}{t:Tok}{i:Int}{Q:K4}(hit:s.heap.IsRvs it x t i)(h:Q (.ref it) s):wpAny (model prog w) A (pyIter (.ref it)) Q E s:=by
 refine wpAny_pyIter_slot hit.typeIs F.slot_rvs_iter (wpAny_call_entry F.slot_rvs_iter hit.typeIs F.entry_rvs_iter ?_ (F.args_rvs_iter_1 _));show wpAny _ _ (ret (.ref it)) _ _ s;exact wpAny_pure ⟨_,rfl,"reversed",_,hit.typeIs,F.slot_rvs_next.lookup,h⟩
theorem hint_rvs{it:Addr}{x:Str}{t:Tok}{i:Int}{Q:K4}(hit:s.heap.IsRvs it x t i)(hi:i<x.length)(hz:x.length<=sizeLine)
  (h:∀u tk,s.toks<=tk->Q (.int (i+1) u) {s with toks:=tk}):wpAny (model prog w) A (call (.builtin "reversed.__length_hint__") [.ref it]) Q E s:=by
 obtain⟨o,ho,hc,hd⟩:=id hit;refine wpAny_call_entry F.slot_rvs_hint hit.typeIs F.entry_rvs_hint ?_ (F.args_rvs_hint_1 _);unfold Builtin.«reversed.__length_hint__»;refine wpAny_bind (wpAny_of_eq (a:=Value.ref it) rfl ?_);refine wpAny_bind (wpAny_field ho hd (x:=.str x t) rfl ?_);show wpAny _ _ (if(Value.str x t==Value.none)=true then _ else _) _ _ s;rw[if_neg (show ¬ ((Value.str x t==Value.none)=true) from λz=>by cases(eq_of_beq z))];have hs:sizeLine=16777216:=sizeLine_eq;refine wpAny_bind (P.len_str ⋯ ?_);refine wpAny_bind (m:=asInt? _) (wpAny_pure ?_);dsimp only;refine wpAny_bind (wpAny_field ho hd (x:=rawInt i) rfl ?_);show wpAny _ _ (if(x.length:Int)<i+1 then _ else _) _ _ _;rw[if_neg ⋯];show wpAny _ _ (mkInt (i+1) >>= λv=>ret v) _ _ _;exact wpAny_bind (wpAny_mkInt (wpAny_pure ⟨_,rfl,h _ _ (by simp;omega)⟩))
theorem Walks.rvs{A:Lf}(hh:A.handled=none)(I:Addr)(x:Str)(t:Tok)(hz:x.length<=sizeLine) :
  Walks prog w A I [I] [I] x.length (λi v=>∃c tk,x.cps[x.length-1-i]?=some c/\v=.str ⟨#[c]⟩ tk) (λi h=>i<=x.length/\h.IsRvs I x t ((x.length:Int)-1-(i:Int))) where
 sub:=λb hb=>hb
 frame:=λ_ _ _ y hk=>⟨y.1,y.2.at λo e=>hk I (by simp) o e⟩
 item:=λi s Q E hi y hQ=>by
  have e:(x.length:Int)-1-(i:Int)=((x.length-1-i:Nat):Int):=by omega
  have hit:=y.2;rw[e]at hit;have hb:x.length-1-i<x.cps.size:=by have:x.length=x.cps.size:=rfl;omega
  have hx:x.cps[x.length-1-i]?=some (x.cps[x.length-1-i]'hb):=Array.getElem?_eq_getElem hb;have hs:sizeLine=16777216:=sizeLine_eq;refine ji hit hx ⋯ λh' tk tk' hit' hs'=>?_;have e2:((x.length-1-i:Nat):Int)-1=(x.length:Int)-1-((i+1:Nat):Int):=by omega
  rw[e2]at hit';exact hQ _ h' tk' ⟨_,tk,hx,rfl⟩ ⟨hi,hit'⟩ λb o hb eo=>hs'.extBut b o (λh=>hb (by simp[h])) eo
 done:=λs Q E y hQ=>by
  have e:(x.length:Int)-1-(x.length:Int) = -1:=by omega
  have hit:=y.2;rw[e]at hit;exact jq hh hit λh' he'=>hQ h' s.toks λb o hb eo=>he' b o (λh=>hb (by simp[h])) eo
 self:=λ_ _ _ _ y hQ=>ia y.2 hQ
theorem l7{I:Addr}{x:Str}{t:Tok}{Q:List Value->Shared->Prop}(hh:A.handled=none)(hit:s.heap.IsRvs I x t ((x.length:Int)-1))(hz:x.length<=sizeLine)
  (hQ:∀s' acc,Moved [I] (λa b=>b=a) s s'->ItemsOf (λi v=>∃c tk,x.cps[x.length-1-i]?=some c/\v=.str ⟨#[c]⟩ tk) acc x.length->Q acc.toList s'):wpAny (model prog w) A (collect (.ref I)) Q E s:=by
 have W:=(Walks.rvs (prog:=prog) (w:=w) (A:=A.in1) hh I x t hz).toS;have hn:x.length<=sizeLine:=hz;have hst:(λi (s:K8)=>i<=x.length/\s.heap.IsRvs I x t ((x.length:Int)-1-(i:Int))) 0 s:=⟨Kw _,by simpa using hit⟩;have hT:∀i (s:K8),(i<=x.length/\s.heap.IsRvs I x t ((x.length:Int)-1-(i:Int)))->s.TypeIs (.ref I) "reversed":=λi s y=>y.2.typeIs;have hlt:I<s.heap.objs.size:=by obtain⟨o,ho,_⟩:=hit;exact Ky ho
 have hSI:s.heap.objs.size≠I:=λe=>KF _ (e▸hlt);have hSf:s.heap.objs.size∉[I]:=λhm=>hSI (J'.mp hm);unfold collect;refine wpAny_bind (wpAny_runValue (codeAny_builtin F.entry_proto_collect ?_));rw[Around.under_plainId F.plain_proto_collect _];show wpAny _ A.in1 (newList [] >>= λl=>again (.builtin "list.__iadd__" ⟨[l,.ref I],[]⟩)) _ _ s;refine wpAny_bind (wpAny_newObj_type ?_);refine wpAny_pure ⟨plainId_quiet F.plain_list_iadd _,codeAny_builtin F.entry_list_iadd ?_⟩;rw[Around.under_plainId F.plain_list_iadd _];have hst₁:=W.frame 0 s (s.heap.push {cls:=.type "list",data:=.seq ([]:List Value).toArray}) s.toks hst (Kv _) λb _ o e=>J9 _ e;have hS₁:(s.heap.push {cls:=.type "list",data:=.seq ([]:List Value).toArray}).get? s.heap.objs.size=some {cls:=.type "list",data:=.seq ([]:List Value).toArray}:=Kd _ rfl;have h1:Builtin.List.listSameRef (.ref s.heap.objs.size) (.ref I)=false:=by simp[Builtin.List.listSameRef,hSI]
 show wpAny _ A.in1 (Builtin.List.listExtendWith (.ref s.heap.objs.size) (.ref I) (.ref s.heap.objs.size)) _ _ _;unfold Builtin.List.listExtendWith;refine wpAny_bind (wpAny_typeOf (hT 0 _ hst₁) ?_);rw[if_neg (by rw[h1];decide)];refine wpAny_bind (W.self 0 _ _ _ hst₁ ?_);refine wpAny_bind (wpAny_holding ?_);unfold Builtin.List.listLengthHint;refine wpAny_bind (wpAny_specialOf (hT 0 _ hst₁) F.nolen_rvs ?_);show wpAny _ A.in1 (specialOf (Value.ref I) (Str.ofString "__length_hint__") >>= _) _ _ _;refine wpAny_bind (wpAny_specialOf (hT 0 _ hst₁) F.hint_rvs ?_)
 (generalize hid:("reversed.__length_hint__":String)=id0;(fail_if_success (clear hid id0));wp_delta;rw[show splitId id0=some ("reversed","__length_hint__") from by subst hid;decide +kernel];subst hid)
 refine wpAny_bind (wpAny_isInstance (b:=true) (hT 0 _ hst₁) (by rw[isSubtype_type];kernel_rfl) ?_);rw[if_neg (show ¬ ((!true)=true) by decide)];dsimp only
 split
 ·rename_i hsil
  exact absurd hsil (by decide +kernel)
 refine wpAny_bind (wpAny_rule ?_);refine wpAny_bind (wpAny_of_eq (F.slot_rvs_hint.bind _) ?_);dsimp only;refine wpAny_bind (wpAny_attempt ?_);refine hint_rvs (i:=(x.length:Int)-1-((0:Nat):Int)) hst₁.2 ⋯ hz λu tk htk=>?_;dsimp only;have hs:sizeLine=16777216:=sizeLine_eq;have hk:Builtin.List.listTooLong (Int.toNat ((x.length:Int)-1-((0:Nat):Int)+1))=false:=by
  unfold Builtin.List.listTooLong;have e:Int.toNat ((x.length:Int)-1-((0:Nat):Int)+1)=x.length:=by omega
  rw[e]
  simpa using hz
 refine wpAny_bind (m:=asInt? (.int _ u)) (wpAny_pure ?_);dsimp only;have hfit:Builtin.List.listFitsIndex ((x.length:Int)-1-((0:Nat):Int)+1)=true:=by
  unfold Builtin.List.listFitsIndex;simp;omega
 rw[if_neg (by rw[hfit];decide),if_neg ⋯,if_neg (by rw[hk];decide)];refine wpAny_pure ?_
 -- the loop,from a list that may have been touched
 have fin:∀(h₂:Heap) (c:Nat),(∀b o,b≠s.heap.objs.size->(s.heap.push {cls:=.type "list",data:=.seq ([]:List Value).toArray}).get? b=some o->h₂.get? b=some o) ->
   h₂.get? s.heap.objs.size=some {cls:=.type "list",data:=.seq ([]:List Value).toArray c} ->
   codeAny (model prog w) A (.builtin "list.extend.loop" ⟨[.ref s.heap.objs.size,.ref I,.ref s.heap.objs.size],[]⟩) (λr s'=>match r with
    | .ok (.ret v)=>wpAny (model prog w) A (match v with
     | .ref a=>do
      let __do_lift <- load a
      match __do_lift.data with
       | .seq xs _=>pure xs.toList
       |_=>unsupported "internal:collect"
     |_=>unsupported "internal:collect") Q E s'
    | .ok _=>False
    | .error e=>E e s') {s with heap:=h₂,toks:=tk}:=λh₂ c keep hS₂=>by
  have hst₂:(λi (s:K8)=>i<=x.length/\s.heap.IsRvs I x t ((x.length:Int)-1-(i:Int))) 0 {s with heap:=h₂,toks:=tk}:=⟨Kw _,hst₁.2.at λo e=>keep I o (Ne.symm hSI) e⟩;refine codeAny_extend_loopS W hn _ hSf _ x.length 0 _ _ _ rfl (Kw _) hst₂ hS₂ (ItemsOf.nil _) λs' acc' c' hm hS' hacc=>?_;show wpAny _ A (load s.heap.objs.size >>= _) _ _ s';refine wpAny_bind (wpAny_load hS' ?_);refine wpAny_pure (hQ s' acc' ?_ hacc);exact⟨λb ob hb e=>hm.heap b ob (λhm'=>by
    rcases Km.mp hm' with e1 | hm'
    ·exact absurd (e1▸Ky e) (KF _)
    ·exact hb hm') (keep b ob (λe1=>absurd (e1▸Ky e) (KF _)) (J9 _ e)),hm.gens,hm.drawn,hm.os,KD htk hm.toks⟩
 have quiet:=plainId_quiet F.plain_extend_loop (⟨[.ref s.heap.objs.size,.ref I,.ref s.heap.objs.size],[]⟩:Args)
 split
 ·refine wpAny_bind (wpAny_rule ?_)
  show wpAny _ A.in1 ((updateSeq s.heap.objs.size (·.push .none) >>= λ_=>updateSeq s.heap.objs.size (·.pop)) >>= _) _ _ _;refine wpAny_bind (wpAny_bind (wpAny_updateSeq hS₁ rfl ?_ (by simp) (by simp)));have q1:=PySem.IsL.update (h:=s.heap.push {cls:=.type "list",data:=.seq ([]:List Value).toArray}) (l:=s.heap.objs.size) (items:=([]:List Value).toArray) (n:=0) hS₁ (·.push .none);refine wpAny_updateSeq q1 rfl ?_ (by simp;omega) (by simp);have q2:=PySem.IsL.update q1 (·.pop);exact wpAny_pure ⟨quiet,fin _ _ (λb o hb e=>(Kc _ _ (Ne.symm hb)).trans ((Kc _ _ (Ne.symm hb)).trans e)) (show _=some ({cls:=.type "list",data:=.seq ([]:List Value).toArray _}:Obj) from q2)⟩
 ·exact wpAny_pure ⟨quiet,fin _ _ (λb o hb e=>e) hS₁⟩
theorem CU{I:Addr}{x sep:Str}{t t0:Tok}{Q:K4}(hh:A.handled=none)(hit:s.heap.IsRvs I x t ((x.length:Int)-1))(hz:x.length<=1000)(hsep:sep.length<=1000)
  (h:∀(s':K8) (t':Tok) (k:Nat),(∀b o,b≠I->s.heap.get? b=some o->s'.heap.get? b=some o)->s'.gens=s.gens->s'.drawn=s.drawn->s'.os=s.os ->
   Q (.str (Txt.join sep (x.cps.toList.reverse.map λc=>(⟨#[c]⟩:Str))) t') {s' with toks:=k}):wpAny (model prog w) A (call (.builtin "str.join") [.str sep t0,.ref I]) Q E s:=by
 have hs:sizeLine=16777216:=sizeLine_eq;refine wpAny_call (codeAny_call_builtin F.slot_str_join.plain F.entry_str_join (F.slot_str_join.check _ _ _ _ _ _ _ _ (typeIs_str _ _ _) (F.args_str_join_2 _ _) ?_));rw[join_tree_other];refine wpAny_bind (wpAny_typeOf hit.typeIs ?_);show wpAny _ A.in1 ((pyIter (.ref I)).tryCatch _ >>= λit=>collect it >>= λitems=>joinTail sep items) _ _ s;refine wpAny_bind (wpAny_tryCatch (ia hit ?_));refine wpAny_bind (l7 hh hit ⋯ λs' acc hm hacc=>?_);obtain⟨l,hl⟩:=exists_strValues acc.toList λv hv=>by
  obtain⟨j,hj,rfl⟩:=Array.mem_iff_getElem.mp (Array.mem_toList_iff.mp hv);obtain⟨c,tk,_,e⟩:=hacc.2 j _ (Array.getElem?_eq_getElem hj);exact⟨_,_,e⟩
 have hlx:l.map (·.1)=x.cps.toList.reverse.map λc=>(⟨#[c]⟩:Str):=by
  have el:l.length=x.length:=by
   have q:=congrArg List.length hl;simp[strValues]at q;rw[q];exact hacc.1
  refine List.ext_getElem (by simp[el];rfl) λj h1 h2=>?_;simp only[KA,List.getElem_reverse];have hj:j<l.length:=by simpa using h1
  have ha:acc.toList[j]?=some (Value.str (l[j]).1 (l[j]).2):=by
   rw[<- hl];simp[strValues,hj]
  have ha':acc[j]?=some (Value.str (l[j]).1 (l[j]).2):=by simpa using ha
  obtain⟨c,tk,hc,e⟩:=hacc.2 j _ ha'
  injection e with e1 _
  rw[e1];have hb:x.length-1-j<x.cps.size:=by have:x.length=x.cps.size:=rfl;omega
  rw[Array.getElem?_eq_getElem hb]at hc;have hc':=Option.some.inj hc;rw[<- hc'];simp only[Array.length_toList,Array.getElem_toList]
  rfl
 rw[<- hl];have hok:JoinOk sep (l.map (·.1))=true:=by
  unfold JoinOk;rw[StrLaws.joinTotal];have e1:((l.map (·.1)).map (·.length)).sum=x.length:=by
   rw[hlx,Kl];have:((λy:Str=>y.length)∘λc=>(⟨#[c]⟩:Str))=λ_=>1:=by funext c;rfl
   rw[this,List.map_const',List.sum_replicate_nat];simp
   rfl
  have e2:(l.map (·.1)).length=x.length:=by rw[hlx];simp;rfl
  rw[e1,e2];have:x.length*sep.length<=1000*1000:=Nat.mul_le_mul hz hsep;unfold tooLong;rw[decide_eq_false ⋯]
  rfl
 have hpost:=λt' k=>h s' t' k (λb o hb e=>hm.heap b o (λz=>hb (J'.mp z)) e) hm.gens hm.drawn hm.os;unfold JoinOk at hok;rw[Bool.not_eq_true']at hok;have g:Gives (joinTail sep (strValues l)) (joinMade sep l):=by
  have g0:=gives_joinTail sep l hok;cases l with
  |nil=>exact g0
  |cons p r=>cases r with
   |nil=>exact g0
   |cons q r'=>exact g0
 rw[<- hlx]at hpost;exact g prog w A (wants Q E) s' (post_join l ⟨joinFit_length hok,hpost⟩)
end
namespace F
theorem q8:Slot "reversed" "__init__" "object.__init__":=
 .of (owner:="object") (n:="__init__") (by rw[typeLookup_type,builtinLookup_eq_fast];kernel_rfl) (by decide +kernel) (by decide +kernel) (by decide +kernel)
  (by first | exact .inl (by decide +kernel) | exact .inr (by decide +kernel)) (by rw[isSubtype_type];kernel_rfl)
theorem yn:mroOf (.type "reversed")=pure [.type "reversed",.type "object"]:=by rw[mroOf_type];kernel_rfl
theorem pP:typeLookup (.type "reversed") "__new__"=pure (some (.builtin "reversed.__new__")):=by rw[typeLookup_type,builtinLookup_eq_fast];kernel_rfl
theorem rvs_called:TypeCalled "reversed" "reversed.__new__" "object.__init__":=
 ⟨by decide +kernel,by decide +kernel,⟨_,_,yn⟩,madeBy_type yn pP (by decide +kernel),by decide +kernel,by rw[isSubtype_type];kernel_rfl,q8⟩
theorem rvs_typeCall_1(a:Value):checkTypeCall "reversed" ⟨[a],[]⟩=pure ():=by kernel_rfl
theorem rvs_newCall_1(a:Value):checkBuiltinCall "reversed.__new__" ⟨[.type "reversed",a],[]⟩=pure ():=by kernel_rfl
theorem rvs_entry_new:entryFor table "reversed.__new__"=some Builtin.«reversed.__new__»:=entryFor_of_tree (by kernel_rfl)
theorem rvs_sub:isSubtype (.type "reversed") (.type "reversed")=pure true:=by rw[isSubtype_type];kernel_rfl
theorem rvs_nostr:typeLookup (.type "str") "__reversed__"=pure none:=by rw[typeLookup_type,builtinLookup_eq_fast];kernel_rfl
end F
section
variable {prog:Ld}{w:Lg}{A:Lf}{E:K4}{s:K8}
theorem tY(a:Value):Builtin.SmallTypes.newClass "reversed" ⟨[.type "reversed",a],[]⟩=pure (.type "reversed",[a]):=by
 unfold Builtin.SmallTypes.newClass;simp only[isType,F.rvs_sub,pure_bind,Bool.not_true,Bool.false_eq_true,if_false]
theorem rg(x:Str)(t:Tok)(hz:x.length<=sizeLine):Meets (Builtin.«reversed.__new__» ⟨[.type "reversed",.str x t],[]⟩)
  (λ_ R s=>R (.ok (.ret (.ref s.heap.objs.size))) {s with heap:=s.heap.push (wE x t ((x.length:Int)-1)),toks:=s.toks+1+1}):=
 .of_wp λprog w A R s h=>by
  have hs:sizeLine=16777216:=sizeLine_eq;unfold Builtin.«reversed.__new__»;refine wpAny_bind (wpAny_of_eq (tY _) ?_)
  try dsimp only
  refine wpAny_bind (wpAny_of_eq (a:=()) (by first | rfl | kernel_rfl) ?_);refine wpAny_bind (wpAny_of_eq (a:=()) (by first | rfl | kernel_rfl) ?_)
  try dsimp only
  refine wpAny_bind (wpAny_specialOf (typeIs_str s x t) F.rvs_nostr ?_)
  try dsimp only
  refine wpAny_bind ?_;refine wpAny_bind (wpAny_isInstance (T:="str") (b:=false) (typeIs_str s x t) (by rw[isSubtype_type];kernel_rfl) ?_);rw[if_neg nofun];refine wpAny_bind (wpAny_specialOf (typeIs_str s x t) F.slot_str_getitem.lookup ?_);dsimp only
  split
  ·refine wpAny_pure ?_
   rw[if_neg nofun];refine wpAny_bind (P.len_str ⋯ ?_);refine wpAny_bind (m:=asInt? _) (wpAny_pure ?_);dsimp only;show wpAny _ _ (newObj (.type "reversed") (.fields #[.str x t,rawInt ((x.length:Int)-1)]) >>= λv=>ret v) _ _ _;exact wpAny_bind (wpAny_newObj_type (wpAny_pure ⟨_,rfl,h⟩))
  ·rename_i hn
   exact absurd (by decide +kernel) hn
theorem l5{x:Str}{t:Tok}{Q:K4}(hz:x.length<=sizeLine)
  (h:Q (.ref s.heap.objs.size) {s with heap:=s.heap.push (wE x t ((x.length:Int)-1)),toks:=s.toks+1+1}):wpAny (model prog w) A (call (.type "reversed") [.str x t]) Q E s:=
 callType_new F.rvs_called nofun (F.rvs_typeCall_1 _) (F.rvs_newCall_1 _) (λobj=>F.args_object_init_2 obj _) F.rvs_entry_new (rg x t hz) ⟨⟨_,Kd _ rfl,rfl⟩,h⟩
end
end PySem
namespace L2
open PySem PySem.Spec PyProof.Rows
noncomputable def fP(env:Env):List (Str×NameKind)->List (Str×Addr)->List (Str×Addr)
 | [],acc=>acc
 | (n,k)::r,acc=>if k==.free then fP env r ((n,(env.cells.lookup n).getD 0)::acc) else fP env r acc
theorem nR{env:Env}:∀(ns:List (Str×NameKind)) (acc:List (Str×Addr)),(∀x∈ns,x.2=.free->∃c,env.cells.lookup x.1=some c) ->
  (forIn ns acc fun(x:Str×NameKind) (cs:List (Str×Addr))=>(if x.2==.free then do
    let c <- cellOf env x.1
    pure (ForInStep.yield ((x.1,c)::cs))
   else pure (ForInStep.yield cs):Sem (ForInStep (List (Str×Addr)))))=pure (fP env ns acc)
 | [],acc,_=>rfl
 | (n,k)::r,acc,h=>by
  have ih:=λa=>nR (env:=env) r a λx hx=>h x (Kn _ hx);rw[List.forIn_cons]
  by_cases hk:k=.free
  ·subst hk
   obtain⟨c,hc⟩:=h (n,.free) List.mem_cons_self rfl;have hc':env.cells.lookup n=some c:=hc;have e1:cellOf env n=pure c:=by unfold cellOf;rw[hc']
   simp only[fP,hc',Option.getD_some];show((do let c <- cellOf env n;pure (ForInStep.yield ((n,c)::acc))) >>= _)=_;rw[e1,pure_bind,pure_bind];exact ih _
  ·have e2:(k==NameKind.free)=false:=by simpa using hk
   simp only[fP,e2,Bool.false_eq_true,if_false];rw[pure_bind];exact ih _
theorem jI{env:Env}{scope:Scope}(h:∀x∈scope.names,x.2=.free->∃c,env.cells.lookup x.1=some c) :
  closureFor scope env=pure (fP env scope.names []):=by
 unfold closureFor;have e:=nR (env:=env) scope.names [] h;have e2:(forIn scope.names ([]:List (Str×Addr)) λx cs=>(match x with
   | (name,kind)=>if kind==.free then do
     let c <- cellOf env name
     pure (ForInStep.yield ((name,c)::cs))
    else pure (ForInStep.yield cs):Sem (ForInStep (List (Str×Addr)))))=pure (fP env scope.names []):=e
 simp only[]at e2 ⊢
 first
  | (rw[e2];rfl)
  | (erw [e2];rfl)
theorem iS{env:Env}:∀{ns:List (Str×NameKind)} {acc:List (Str×Addr)} {x:Str} {c:Addr},(∀y∈ns,y.2=.free->∃c,env.cells.lookup y.1=some c) ->
  (∀y c,acc.lookup y=some c->env.cells.lookup y=some c)->(fP env ns acc).lookup x=some c->env.cells.lookup x=some c
 | [],_,_,_,_,ha,e=>ha _ _ e
 | (n,k)::r,acc,x,c,h,ha,e=>by
  have hr:∀y∈r,y.2=.free->∃c,env.cells.lookup y.1=some c:=λy hy=>h y (Kn _ hy);unfold fP at e
  by_cases hk:k=.free
  ·subst hk
   rw[if_pos (by simp)]at e;obtain⟨c',hc⟩:=h (n,.free) List.mem_cons_self rfl;have hc':env.cells.lookup n=some c':=hc;refine iS hr (λy d z=>?_) e;rw[hc',Option.getD_some,List.lookup_cons]at z
   by_cases q:y=n
   ·subst q
    simp at z;subst z;exact hc'
   ·have q':(y==n)=false:=by simpa using q
    rw[q']at z;exact ha y d z
  ·rw[if_neg (by simpa using hk)]at e
   exact iS hr ha e
theorem oY{env:Env}:∀{ns:List (Str×NameKind)} {acc:List (Str×Addr)} {x:Str},((∃c,acc.lookup x=some c)\/(x,NameKind.free)∈ns)->∃c,(fP env ns acc).lookup x=some c
 | [],_,_,h=>by
  rcases h with h | h
  ·exact h
  ·exact nomatch h
 | (n,k)::r,acc,x,h=>by
  unfold fP
  by_cases hk:k=.free
  ·subst hk
   rw[if_pos (by simp)];refine oY ?_
   by_cases q:x=n
   ·subst q
    left
    simp[List.lookup_cons]
   ·have q':(x==n)=false:=by simpa using q
    rcases h with⟨c,h⟩ | h
    ·exact .inl ⟨c,by rw[List.lookup_cons,q'];exact h⟩
    ·rcases Km.mp h with z | z
     ·cases z
      exact absurd rfl q
     ·exact .inr z
  ·rw[if_neg (by simpa using hk)]
   refine oY ?_;rcases h with h | h
   ·exact .inl h
   ·rcases Km.mp h with z | z
    ·cases z
     exact absurd rfl hk
    ·exact .inr z
noncomputable def wc(scope osc:Scope):Scope:=
 {scope with names:=scope.names.map fun(n,k)=>if(k==.free&&osc.kind==.function&&osc.names.lookup n==some .cell) then(n,.cell) else(n,k)}
noncomputable def CW(scope osc:Scope):Bool:=
 (scope.kind==.function)&&(osc.kind==.function)&&scope.names.all fun(n,k)=>(k != .free || !scope.names.contains (n,NameKind.cell))&&(k != .local||scope.names.lookup n==some .local) &&
  (k != .free||osc.names.lookup n==some .cell||osc.names.lookup n==some .free)&&(k != .free||(wc scope osc).names.lookup n != some .local)
structure bB(scope osc:Scope):Prop where
 kind:scope.kind=.function
 sep:∀x∈scope.names,x.2=.free->(x.1,NameKind.cell)∉scope.names
 loc:∀x∈scope.names,x.2=.local->scope.names.lookup x.1=some .local
 free:∀x∈scope.names,x.2=.free->osc.names.lookup x.1=some .cell\/osc.names.lookup x.1=some .free
 nl:∀x∈scope.names,x.2=.free->(wc scope osc).names.lookup x.1≠some .local
theorem bB.of{scope osc:Scope}(h:CW scope osc=true):bB scope osc:=by
 unfold CW at h;rw[Bool.and_eq_true,Bool.and_eq_true,KR]at h;obtain⟨⟨h1,h0⟩,h2⟩:=h;refine⟨by simpa using h1,λx hx e=>?_,λx hx e=>?_,λx hx e=>?_,λx hx e=>?_⟩
 all_goals
  obtain⟨n,k⟩:=x;have q:=h2 (n,k) hx;simp only[Bool.and_eq_true,Bool.or_eq_true,bne_iff_ne,beq_iff_eq]at q
 ·have z:=q.1.1.1.resolve_left (λz=>z e)
  simpa using z
 ·exact q.1.1.2.resolve_left (λz=>z e)
 ·rcases q.1.2 with(z | z) | z
  ·exact absurd e z
  ·exact .inl z
  ·exact .inr z
 ·exact q.2.resolve_left (λz=>z e)
theorem gi{osc:Scope}:∀{ns:List (Str×NameKind)} {x:Str} {k':NameKind},
  (ns.map fun(n,k)=>if(k==NameKind.free&&osc.kind==.function&&osc.names.lookup n==some .cell) then(n,NameKind.cell) else(n,k)).lookup x=some k' ->
  (k'=.cell\/k'=.free)->(x,NameKind.free)∈ns\/(x,NameKind.cell)∈ns
 | [],_,_,h,_=>by simp at h
 | (n,k)::r,x,k',h,hk'=>by
  rw[KC]at h
  by_cases q:x=n
  ·subst q
   by_cases z:(k==NameKind.free&&osc.kind==.function&&osc.names.lookup x==some .cell)=true
   ·have:k=.free:=by
     simp only[Bool.and_eq_true,beq_iff_eq]at z;exact z.1.1
    subst this;exact .inl List.mem_cons_self
   ·simp only[z,Bool.false_eq_true,if_false]at h
    rw[List.lookup_cons]at h;simp at h;subst h;rcases hk' with e | e
    ·subst e;exact .inr List.mem_cons_self
    ·subst e;exact .inl List.mem_cons_self
  ·have q':(x==n)=false:=by simpa using q
   refine(gi (osc:=osc) (k':=k') (ns:=r) (x:=x) ?_ hk').imp (Kn _) (Kn _)
   by_cases z:(k==NameKind.free&&osc.kind==.function&&osc.names.lookup n==some .cell)=true
   ·simp only[z,if_true]at h
    rw[List.lookup_cons,q']at h;exact h
   ·simp only[z,Bool.false_eq_true,if_false]at h
    rw[List.lookup_cons,q']at h;exact h
theorem jZ:∀(ns:List (Str×NameKind)) (n:Nat) (acc:List (Str×Addr)),cellsFrom n ns acc=cellsFrom n ns []++acc
 | [],_,_=>rfl
 | (x,k)::r,n,acc=>by
  unfold cellsFrom
  split
  ·rw[jZ r (n+1) ((x,n)::acc),jZ r (n+1) [(x,n)],KI];rfl
  ·exact jZ r n acc
theorem ux:∀{ns:List (Str×NameKind)} {n:Nat} {x:Str} {c:Addr},(x,c)∈cellsFrom n ns []->(x,NameKind.cell)∈ns
 | [],_,_,_,h=>nomatch h
 | (y,k)::r,n,x,c,h=>by
  unfold cellsFrom at h
  split at h
  ·rename_i hk
   rw[jZ]at h;rcases Kk.mp h with h | h
   ·exact Kn _ (ux h)
   ·cases J'.mp h
    have:k=.cell:=by simpa using hk
    subst this;exact List.mem_cons_self
  ·exact Kn _ (ux h)
theorem tV:∀{ns:List (Str×NameKind)} {n:Nat} {x:Str} {acc:List (Str×Addr)},((x,NameKind.cell)∈ns\/∃c,acc.lookup x=some c)->∃c,(cellsFrom n ns acc).lookup x=some c
 | [],_,_,_,h=>h.elim (λz=>nomatch z) id
 | (y,k)::r,n,x,acc,h=>by
  unfold cellsFrom
  split
  ·refine tV ?_
   by_cases q:x=y
   ·subst q
    exact .inr ⟨n,by simp[List.lookup_cons]⟩
   ·have q':(x==y)=false:=by simpa using q
    rcases h with h | ⟨c,h⟩
    ·rcases Km.mp h with z | z
     ·cases z;exact absurd rfl q
     ·exact .inl z
    ·exact .inr ⟨c,by rw[List.lookup_cons,q'];exact h⟩
  ·rename_i hk
   refine tV ?_;rcases h with h | h
   ·rcases Km.mp h with z | z
    ·cases z;exact absurd rfl hk
    ·exact .inl z
   ·exact .inr h
noncomputable def eC(env:Env)(scope:Scope)(C:Addr):List (Str×Addr):=cellsFrom (C+1) scope.names (fP env scope.names [])
theorem mI:∀{ns:List (Str×NameKind)} {n:Nat} {x:Str} {c:Addr},(x,c)∈cellsFrom n ns []->n<=c
 | [],_,_,_,h=>nomatch h
 | (y,k)::r,n,x,c,h=>by
  unfold cellsFrom at h
  split at h
  ·rw[jZ]at h
   rcases Kk.mp h with h | h
   ·exact KD (Nat.le_succ _) (mI h)
   ·cases J'.mp h
    exact Kv _
  ·exact mI h
theorem pL:∀{ns:List (Str×NameKind)} {n:Nat},(cellsFrom n ns []).Pairwise λx y=>x.2≠y.2
 | [],_=>List.Pairwise.nil
 | (y,k)::r,n=>by
  unfold cellsFrom
  split
  ·rw[jZ]
   refine List.pairwise_append.mpr ⟨pL,by simp,λa ha b hb e=>?_⟩;cases J'.mp hb;have:=mI (x:=a.1) (c:=a.2) ha;rw[e]at this;exact absurd this (Nat.not_succ_le_self _)
  ·exact pL
theorem i8{env:Env}{scope:Scope}{C:Addr}{x:Str}{c:Addr}(h:(eC env scope C).lookup x=some c) :
  ((x,c)∈cellsFrom (C+1) scope.names []/\C<c/\(x,NameKind.cell)∈scope.names)\/((cellsFrom (C+1) scope.names []).lookup x=none/\(fP env scope.names []).lookup x=some c):=by
 unfold eC at h;rw[jZ,List.lookup_append]at h;cases q:(cellsFrom (C+1) scope.names []).lookup x with
 |none=>rw[q]at h;exact .inr ⟨rfl,h⟩
 |some d=>
  rw[q]at h;cases h;have:=mem_of_lookup q;exact .inl ⟨this,mI this,ux this⟩
theorem Bx{ns:List (Str×NameKind)}{n:Nat}{x:Str}(h:(x,NameKind.cell)∉ns):(cellsFrom n ns []).lookup x=none:=by
 cases q:(cellsFrom n ns []).lookup x with
 |none=>rfl
 |some d=>exact absurd (ux (mem_of_lookup q)) h
section
variable {M:Model}{A:Lf}{E:K4}{s:K8}
theorem fR{scope:Scope}{globals:Addr}{closure:List (Str×Addr)}{qual:Str}{func:Lh}{code:Value}{outer:Env}{builtins:Addr}{Q:Env->Shared->Prop}
  (hQ:Q (newEnv scope s.heap.objs.size globals (cellsFrom (s.heap.objs.size+1) scope.names closure) qual func code (some outer) builtins) {s with heap:=pushCells (s.heap.push {cls:=.type "dict",data:=.dict #[]}) scope.names}) :
  wpAny M A (newFunctionEnv scope globals closure [] qual func code (some outer) builtins) Q E s:=by
 simp only[newFunctionEnv,Option.isSome_some,if_true];simp only[newEnv]at hQ;refine wpAny_bind (wpAny_alloc ?_);refine wpAny_bind (wpAny_layCells _ (λname kind cells=>by cases hkc:kind==NameKind.cell<;>simp[hkc]) _ _ _ _ ?_);rw[show({s with heap:=s.heap.push {cls:=.type "dict",data:=.dict #[]} }:Shared).heap.objs.size=s.heap.objs.size+1 from Heap.size_push ..];rw[List.forIn_nil];exact wpAny_bind (wpAny_pure (wpAny_pure hQ))
end
noncomputable def Cx.blk(X:Cx)(N':Le)(s₂:K8)(H₂:Hp)(scope:Scope)(fp:La)(C:Addr):Cx where
 prog:=X.prog
 w:=X.w
 K:=X.K
 mg:=X.mg
 base:=X.base
 A:=X.A
 N:=N'
 s₀:=s₂
 H₀:=H₂
 env:=compEnvC scope (eC X.env scope C) C X.env
 outer:=X.stack
 stack:=X.stack
 ex:=fp
 fn:=λx=>scope.names.contains (x,NameKind.cell)
 calm:=X.calm
 pn:=[]
 xe:=λ_ _=>False
noncomputable def rP(k:Nat)(js:K7)(σ:St):St:=List.replicate k none++js.map λj=>(σ[j]?).join
noncomputable def pI(own:Le)(js:K7)(N:Le):List Str:=own++js.map λj=>N.getD j Str.empty
section
variable {X:Cx}
theorem Inv.capFree{pins:K6}{σ:St}{H:Hp}{s:K8}{scope:Scope}(I:Inv X pins σ H s)(hk:bB scope X.env.scope):∀x∈scope.names,x.2=.free->∃c,X.env.cells.lookup x.1=some c:=
 λx hx e=>I.ok.has x.1 (hk.free x hx e)
theorem Inv.capL{pins:K6}{σ:St}{H:Hp}{s:K8}{scope:Scope}{x:Str}{c:Addr}(I:Inv X pins σ H s)(hk:bB scope X.env.scope)(e:(fP X.env scope.names []).lookup x=some c):X.env.cells.lookup x=some c:=
 iS (I.capFree hk) (λ_ _ z=>by simp at z) e
theorem Inv.blkL{pins:K6}{σ:St}{H:Hp}{s:K8}{scope:Scope}{C:Addr}{x:Str}{c:Addr}(I:Inv X pins σ H s)(hk:bB scope X.env.scope)(e:(eC X.env scope C).lookup x=some c) :
  ((x,c)∈cellsFrom (C+1) scope.names []/\C<c/\(x,NameKind.cell)∈scope.names)\/X.env.cells.lookup x=some c:=
 (i8 e).imp id λz=>I.capL hk z.2
theorem FH{pins:K6}{σ:St}{H:Hp}{s:K8}{N':Le}{scope:Scope}{fp:La}{C:Addr}(I:Inv X pins σ H s)(hk:bB scope X.env.scope)(hC:s.heap.objs.size<=C)
  (hf:∀b∈fp,oO X pins H b) (ho:∀b∈fp,∃o,s.heap.get? b=some o):(X.blk N' s H scope fp C).Ok where
 mod:=I.ok.mod
 kind:=hk.kind
 glob:=I.ok.glob
 blt:=I.ok.blt
 above:=hC
 inj:=λx y c e1 e2=>by
  have low:∀z,X.env.cells.lookup z=some c->c<C:=λz e=>by
   obtain⟨v,q⟩:=I.cell z c e;exact Kq q.lt hC
  rcases I.blkL hk e1 with⟨a1,a2,_⟩ | a<;>rcases I.blkL hk e2 with⟨b1,b2,_⟩ | b
  ·exact name_of_addr pL a1 b1
  ·exact absurd (low _ b) (Nat.not_lt.mpr (Nat.le_of_lt a2))
  ·exact absurd (low _ a) (Nat.not_lt.mpr (Nat.le_of_lt b2))
  ·exact I.ok.inj x y c a b
 has:=λx h=>by
  refine tV ?_;have z:(x,NameKind.free)∈scope.names\/(x,NameKind.cell)∈scope.names:=by
   rcases h with h | h
   ·exact gi (osc:=X.env.scope) h (.inl rfl)
   ·exact gi (osc:=X.env.scope) h (.inr rfl)
  rcases z with z | z
  ·exact .inr (oY (.inr z))
  ·exact .inl z
 cab:=λx c z e=>by
  have z':(x,NameKind.cell)∈scope.names:=by
   have z2:scope.names.contains (x,NameKind.cell)=true:=z
   simpa using z2
  have e':(eC X.env scope C).lookup x=some c:=e;rcases i8 e' with⟨_,a,_⟩ | ⟨a,_⟩
  ·exact KD hC (Nat.le_of_lt a)
  ·obtain⟨d,q⟩:=tV (n:=C+1) (acc:=[]) (.inl z')
   rw[a]at q;cases q
 hd:=I.ok.hd
 frames:=I.ok.frames
 stk:=.inl rfl
 exf:=λb hb=>⟨λe=>by
  obtain⟨o,q⟩:=ho b hb;have e':b=C:=e;rw[e']at q;exact absurd (Ky q) (Nat.not_lt.mpr hC),λx c e=>by
  rcases I.blkL hk e with⟨_,a,_⟩ | a
  ·obtain⟨o,q⟩:=ho b hb
   intro z;rw[z]at a;exact absurd (Kq (Ky q) hC) (Nat.not_lt.mpr (Nat.le_of_lt a))
  ·exact(hf b hb).2.2.2.2.1 x c a⟩
 bs:=I.bs
 bsz:=KD I.ok.bsz I.sz
 noex:=λb o e hb=>by
  rcases(hf b hb).2.2.2.1 with z | z
  ·exact I.ok.noex b o e z
  ·exact absurd (Ky (I.ok.bs b o e).1) (Nat.not_lt.mpr z)
 exfs:=λb hb hs=>by
  rcases Km.mp (I.stkSub b hs) with z | z
  ·exact(hf b hb).2.1 z
  ·exact(hf b hb).2.2.1 z
 funs:=I.stack
 frf:=I.stkFree
theorem zL{pins:K6}{σ:St}{H:Hp}{s s1:K8}{own:Le}{js:K7}{scope:Scope}{fp:La}{C:Addr}{m:Lb}(I:Inv X pins σ H s)(hk:bB scope X.env.scope)(hC:s.heap.objs.size<=C)
  (hf:∀b∈fp,oO X pins H b) (ho:∀b∈fp,∃o,s.heap.get? b=some o) (hos:s1.os=s.os) (hg:s1.gens=s.gens) (hn:s1.heap.Ns C m) (keep:∀b o,s.heap.get? b=some o->s1.heap.get? b=some o)
  (hown:∀x c,(x,c)∈cellsFrom (C+1) scope.names []->s1.heap.IsCell c none) (hcap:(js.all λj=>scope.names.contains (X.N.getD j Str.empty,NameKind.free))=true) :
  Inv (X.blk (pI own js X.N) s H scope fp C) [] (rP own.length js σ) H s1:=by
 have cl:=fun{x:Str} {c:Addr} (e:(fP X.env scope.names []).lookup x=some c)=>iS (I.capFree hk) (λ_ _ z=>by simp at z) e;refine⟨FH I hk hC hf ho,hos,hg▸I.bare,Un.kept keep,⟨m,hn,λi x v e1 e2 e3=>?_⟩,λx c e=>?_,I.hok.fresh hC,λx c e=>(I.blkL hk e).elim (λz=>I.hok.fresh (KD hC (Nat.le_of_lt z.2.1))) λz=>I.freeC x c z,λp hp=>(nomatch hp),I.hok.kept keep,?_⟩
 ·have e1':(own++js.map λj=>X.N.getD j Str.empty)[i]?=some x:=e1
  have e2':(List.replicate own.length none++js.map λj=>(σ[j]?).join)[i]?=some (some v):=e2
  by_cases hi:i<own.length
  ·rw[Kt (by rw[List.length_replicate];exact hi),List.getElem?_replicate,if_pos hi]at e2'
   cases e2'
  ·have hi':own.length<=i:=Nat.le_of_not_lt hi
   rw[Ks (by rw[List.length_replicate];exact hi'),List.length_replicate,Ka]at e2';rw[Ks hi',Ka]at e1';cases ej:js[i-own.length]? with
   |none=>rw[ej]at e1';cases e1'
   |some j=>
    rw[ej]at e1' e2';have ex:X.N.getD j Str.empty=x:=Option.some.inj e1';have ev:(σ[j]?).join=some v:=Option.some.inj e2';have hj:σ[j]?=some (some v):=by
     cases q:σ[j]? with
     |none=>rw[q]at ev;cases ev
     |some z=>rw[q]at ev;simp at ev;rw[ev]
    have hjl:j<X.N.length:=by rw[<- I.len];exact(J8.mp hj).1
    have hN:X.N[j]?=some x:=by rw[<- ex,List.getD_eq_getElem?_getD,J7 hjl];rfl
    have hx:(x,NameKind.free)∈scope.names:=by
     have q:=KR.mp hcap j (Kb ej);rw[ex]at q
     simpa using q
    have ko:=hk.free _ hx rfl;obtain⟨mo,hno,hl⟩:=I.loc;obtain⟨u,ru,lk⟩:=hl j x v hN hj (ko.elim (λz=>.inr (.inl z)) λz=>.inr (.inr z));refine⟨u,ru,?_⟩;rcases lk with⟨kk,_⟩ | ⟨kk,c,ec,hc⟩
    ·rcases ko with z | z
     ·rw[show X.env.kindOf x=X.env.scope.names.lookup x from rfl,z]at kk;cases kk
     ·rw[show X.env.kindOf x=X.env.scope.names.lookup x from rfl,z]at kk;cases kk
    ·obtain⟨c',hc'⟩:=oY (env:=X.env) (ns:=scope.names) (acc:=[]) (x:=x) (.inr hx)
     have:=cl hc';rw[ec]at this;cases this;refine .inr ⟨?_,c,?_,hc.keeps keep⟩
     case refine_2=>
      show(eC X.env scope C).lookup x=some c;unfold eC;rw[jZ,List.lookup_append,Bx (hk.sep _ hx rfl)];exact hc'
     -- its kind within the block
     rcases e3 with z | z | z
     ·exact absurd z (hk.nl _ hx rfl)
     ·exact .inl z
     ·exact .inr z
 ·rcases I.blkL hk e with z | z
  ·exact⟨none,hown x c z.1⟩
  ·obtain⟨v,z⟩:=I.cell x c z
   exact⟨v,z.keeps keep⟩
 ·show(List.replicate own.length none++js.map λj=>(σ[j]?).join).length=(own++js.map λj=>X.N.getD j Str.empty).length
  simp
noncomputable def EO(env:Env)(ifs:Li):Sem Bool:=forIn ifs true λc r=>if r=true then do let ok <- isTrue c env (eval c env);pure (ForInStep.yield ok) else pure (ForInStep.yield r)
theorem tP{prog:Ld}{w:Lg}{A:Lf}{R:Result->Shared->Prop}{s:K8}{elt target iter:Expr}{ifs:Li}{scope:Scope}{pos:Pos}{it acc:Value}{env:Env}(I:Nat->Shared->Prop)
  (turn:∀n s,I n s->wpAny (model prog w) A (pyNext it) (λr s₁=>match r with
   |none=>R (.ok .next) s₁
   |some v=>wpAny (model prog w) A (letOwnedTupleGo target it v) (λ_ s₁'=>wpAny (model prog w) A (assign target env v) (λ_ s₂=>
     wpAny (model prog w) A (EO env ifs) (λok s₃=>
      if ok=true then wpAny (model prog w) A (eval elt env) (λx s₄=>
       wpAny (model prog w) A (call (.builtin "list.append") [acc,x]) (λ_ s₅=>∃m,m<n/\I m s₅) (λ_ _=>False) s₄) (λ_ _=>False) s₃
      else ∃m,m<n/\I m s₃) (λ_ _=>False) s₂) (λ_ _=>False) s₁') (λ_ _=>False) s₁) (λ_ _=>False) s)
  (n:Nat) (h:I n s) :
  codeAny (model prog w) A (.compLoop (.ListComp elt [⟨target,iter,ifs,0⟩] scope pos) 0 it acc env) R s:=by
 refine codeAny_loop rfl I (λn s hI=>?_) n h;show wpAny _ A ((compTurn (.ListComp elt [⟨target,iter,ifs,0⟩] scope pos) 0 it acc env).onRaise (λx=>do noteFrame x env;theTreesLotGoes x)) _ _ s;refine wpAny_noted ?_;rw[compTurn_list];have up:∀{α:Type} {t:Sem α} {Q Q':α->Shared->Prop} {E':K4} {s:K8},wpAny (model prog w) A t Q (λ_ _=>False) s->(∀a s,Q a s->Q' a s)->wpAny (model prog w) A t Q' E' s:=
  λh hQ=>wpAny_mono h hQ λ_ _ f=>f.elim
 refine wpAny_bind (wpAny_standAt (wpAny_bind (up (turn n s hI) λr s₁ h₁=>?_)));cases r with
 |none=>exact wpAny_pure h₁
 |some v=>
  refine wpAny_bind (up h₁ λ_ s₁' h₁'=>wpAny_bind (up h₁' λ_ s₂ h₂=>wpAny_bind (up h₂ λok s₃ h₃=>?_)));cases ok with
  |false=>exact wpAny_pure ⟨rfl,h₃⟩
  |true=>
   exact wpAny_bind (wpAny_bind (up h₃ λx s₄ h₄=>wpAny_bind (up h₄ λ_ s₅ h₅=>wpAny_pure (wpAny_pure ⟨rfl,h₅⟩))))
noncomputable def GM(X:Cx)(ifs:Li)(t:TT):Prop:=
 ∀(pins:K6) (s:K8) (σ:St) (H:Hp) (Q:Bool->Hp->Prop),Inv X pins σ H s->t σ H Q->wpAny (model X.prog X.w) X.A (EO X.env ifs) (TP X pins σ Q) X.xe s
noncomputable def yW:TT:=λ_ H Q=>Q true H
theorem bU{X:Cx}:GM X [] yW:=λpins s σ H Q I h=>wpAny_tests_nil ⟨H,I,h⟩
noncomputable def i9(J:It)(g:TG)(ti:TT)(te:TE)(σ:St)(H:Hp)(Q:List V->Hp->Prop):Prop:=
 ∃W:Nat->Nat->List V->St->Hp->Prop,(∃m,W 0 m [] σ H)/\∀i m acc σ' H',W i m acc σ' H' ->
  acc.length<sizeLine/\((J.stop i H'/\Q acc H') \/
   (J.go i H'/\∃N:List V->St->Hp->Prop,(∀acc' σ2 H2,N acc' σ2 H2->∃m',m'<m/\W (i+1) m' acc' σ2 H2) /\
    ∀x H2,J.yld i H' x H2->g x σ' H2 λσ2 H3=>ti σ2 H3 λb H4=>if b=true then te σ2 H4 λv H5=>N (acc++[v]) σ2 H5 else N acc σ2 H4))
noncomputable def yX(k:Nat)(js:K7)(wi:TI)(g:TG)(ti:TT)(te:TE):TE:=λσ H Q=>wi σ H λJ H1=>i9 J g ti te (rP k js σ) H1 λacc H'=>∀l,H' l=none->Q (.ref l) (ax H' l (.lst acc))
noncomputable abbrev hV(its:K9)(n:Nat):Obj:={cls:=.type "list",data:=.seq its.toArray n}
theorem sG{pins:K6}{σ:St}{H:Hp}{s:K8}{elt tg iter:Expr}{ifs:Li}{scope:Scope}{pos:Pos}{own:Le}{js:K7}{g:TG}{ti:TT}{te:TE}{J:It}{fp:La}{it:Addr}{tn:Nat->Heap->Prop}{Q:List V->Hp->Prop}{E:K4}
  {RR:Value->Addr->Result->Shared->Prop} (hc:X.calm=true) (hk:bB scope X.env.scope) (hcap:(js.all λj=>scope.names.contains (X.N.getD j Str.empty,NameKind.free))=true)
  (hg:∀s H fp C,PG (X.blk (pI own js X.N) s H scope fp C) tg g) (hi:∀s H fp C,GM (X.blk (pI own js X.N) s H scope fp C) ifs ti) (he:∀s H fp C,PE (X.blk (pI own js X.N) s H scope fp C) elt te)
  (I:Inv X pins σ H s) (T:pk X.prog X.w X.K tg J fp it tn) (st:tn 0 s.heap) (hf:∀b∈fp,oO X pins H b)
  (hW:i9 J g ti te (rP own.length js σ) H Q)
  (hRR:∀(D C:Addr) (s':K8) (H':Hp) (acc:List V) (m:Lb),Q acc H'->H' D=none->Inv X pins σ (ax H' D (.lst acc)) s'->s'.heap.Ns C m->ax H' D (.lst acc) C=none->C≠X.env.locals->X.s₀.heap.objs.size<=C ->
   (∀x c,X.env.cells.lookup x=some c->c≠C)->(∀p∈X.pn++pins,p.1≠C)->RR (.ref D) C (.ok .next) s') :
  wpAny (model X.prog X.w) X.A (newList []) (λacc s₃=>wpAny (model X.prog X.w) X.A (newFunctionEnv scope X.env.globals (fP X.env scope.names []) [] X.env.qual none .none (some X.env)) (λcenv s₄=>
   codeAny (model X.prog X.w) X.A (.compStart (.ListComp elt [⟨tg,iter,ifs,0⟩] scope pos) 0 (.ref it) acc {cenv with scope:=relabel scope X.env}) (RR acc cenv.locals) s₄) E s₃) E s:=by
 obtain⟨W,⟨m0,w0⟩,turn⟩:=hW;refine wpAny_newObj_type (fR ?_);dsimp only;generalize hH2:s.heap.push {cls:=.type "list",dict:=none,data:=.seq ([]:List Value).toArray}=H2;generalize hh1:pushCells (H2.push {cls:=.type "dict",data:=.dict #[]}) scope.names=h₁;have hpk:∀b o,(H2.push {cls:=.type "dict",data:=.dict #[]}).get? b=some o->h₁.get? b=some o:=λb o e=>hh1▸pushCells_keeps _ _ b o e;have hns₁:h₁.Ns H2.objs.size λ_=>none:=by
  have q:(H2.push {cls:=.type "dict",data:=.dict #[]}).Ns H2.objs.size λ_=>none:=Heap.Ns.new ..;exact q.at' λo e=>hpk _ o e
 have hown₁:∀x c,(x,c)∈cellsFrom (H2.objs.size+1) scope.names []->h₁.IsCell c none:=λx c e=>by
  have ok:=cellsFrom_ok scope.names (H2.push {cls:=.type "dict",data:=.dict #[]}) (H2.objs.size+1) [] ⟨λ_ _ hm=>(nomatch hm),List.Pairwise.nil⟩ (by rw[Heap.size_push];exact Kv _);rw[Heap.size_push,hh1]at ok;exact(ok.empty x c e).1
 have hC:H2.objs.size=s.heap.objs.size+1:=by rw[<- hH2,Heap.size_push]
 have hDC:s.heap.objs.size≠H2.objs.size:=by rw[hC];exact Kr (KG _)
 have hCle:s.heap.objs.size<=H2.objs.size:=by rw[hC];exact Nat.le_succ _
 have below:∀b,b<s.heap.objs.size->b≠H2.objs.size/\b≠s.heap.objs.size:=λb hb=>⟨by rw[hC];exact Kr (Nat.lt_succ_of_lt hb),Kr hb⟩;have old:∀b o,s.heap.get? b=some o->h₁.get? b=some o:=λb o e=>hpk b o (J9 _ (hH2▸J9 _ e));have hacc:h₁.get? s.heap.objs.size=some (hV [] 0):=hpk _ _ (J9 _ (hH2▸Kd _ rfl));have hob:∀b∈fp,∃o,s.heap.get? b=some o:=λb hb=>let ⟨o,e,_⟩:=T.obj 0 _ st b hb;⟨o,e⟩
 have st₁:tn 0 h₁:=T.keep 0 _ _ st λb _ o e=>old b o e;generalize hXb:X.blk (pI own js X.N) s H scope fp H2.objs.size=Xb;have I₁:Inv Xb [] (rP own.length js σ) H {s with heap:=h₁}:=hXb▸zL I hk hCle hf hob rfl rfl hns₁ old hown₁ hcap;have eP:Xb.prog=X.prog:=by rw[<- hXb];rfl
 have ew:Xb.w=X.w:=by rw[<- hXb];rfl
 have eK:Xb.K=X.K:=by rw[<- hXb];rfl
 have eA:Xb.A=X.A:=by rw[<- hXb];rfl
 have ec:Xb.calm=true:=by rw[<- hXb];exact hc
 have eE:Xb.env=compEnvC scope (eC X.env scope H2.objs.size) H2.objs.size X.env:=by rw[<- hXb];rfl
 have ex:Xb.xe=λ_ _=>False:=by rw[<- hXb];rfl
 have es:Xb.s₀=s:=by rw[<- hXb];rfl
 have eh:Xb.H₀=H:=by rw[<- hXb];rfl
 have ef:Xb.fs=mM X.stack:=by rw[<- hXb];rfl
 have exx:Xb.ex=fp:=by rw[<- hXb];rfl
 have ep:Xb.pn=[]:=by rw[<- hXb];rfl
 have eL:Xb.env.locals=H2.objs.size:=by rw[eE];rfl
 have hD0:H s.heap.objs.size=none:=I.hok.fresh (Kv _)
 -- D is no iterator's,no frame's
 have hDf:∀b∈fp,b≠s.heap.objs.size:=λb hb e=>by
  obtain⟨o,q⟩:=hob b hb;rw[e]at q;exact absurd (Ky q) (KF _)
 have hDs:s.heap.objs.size∉Xb.fs:=λz=>by
  rw[ef]at z;rcases Km.mp (I.stkSub _ z) with q | q
  ·exact absurd I.lt (by rw[<- q];exact KF _)
  ·exact I.nofs (Kv _) q
 have hDcell:∀x c,Xb.env.cells.lookup x=some c->c≠s.heap.objs.size:=λx c e q=>by
  rcases I.blkL hk (C:=H2.objs.size) (x:=x) (c:=c) (by rw[eE]at e;exact e) with⟨_,z,_⟩ | z
  ·rw[q]at z
   exact absurd hCle (Nat.not_le.mpr z)
  ·obtain⟨v,o,ho,_⟩:=I.cell x c z
   rw[q]at ho;exact absurd (Ky ho) (KF _)
 have stat:∀{pl:K6} {H':Hp},(∀b∈fp,H' b=none)->(∀p∈pl,p.1=s.heap.objs.size)->∀b∈fp,oO Xb pl H' b:=λhn hp b hb=>by
  refine⟨hn b hb,?_,?_,.inl (by rw[exx];exact hb),λx c e=>?_,λp hpp=>?_⟩
  ·rw[eL];exact(below b (let ⟨o,q⟩:=hob b hb;Ky q)).1
  ·rw[ef];intro z
   rcases Km.mp (I.stkSub b z) with q | q
   ·exact(hf b hb).2.1 q
   ·exact(hf b hb).2.2.1 q
  ·rcases I.blkL hk (C:=H2.objs.size) (x:=x) (c:=c) (by rw[eE]at e;exact e) with⟨_,z,_⟩ | z
   ·intro q
    rw[q]at z;obtain⟨o,q2⟩:=hob b hb;exact absurd (Kq (Ky q2) hCle) (Nat.not_lt.mpr (Nat.le_of_lt z))
   ·exact(hf b hb).2.2.2.2.1 x c z
  ·rw[ep,KW]at hpp
   rw[hp p hpp];exact(hDf b hb).symm
 have loop:∀s₃:Shared,s₃={s with heap:=h₁} ->
   codeAny (model X.prog X.w) X.A (.compLoop (.ListComp elt [⟨tg,iter,ifs,0⟩] scope pos) 0 (.ref it) (.ref s.heap.objs.size) (compEnvC scope (eC X.env scope H2.objs.size) H2.objs.size X.env))
    (RR (.ref s.heap.objs.size) H2.objs.size) s₃:=by
  rintro s₃ rfl;refine tP (λn s'=>∃(i:Nat) (acc:List V) (its:K9) (k:Nat) (σ':St) (H':Hp),Inv Xb [] σ' H' s'/\tn i s'.heap/\(∀b∈fp,H' b=none)/\H' s.heap.objs.size=none/\s'.heap.get? s.heap.objs.size=some (hV its k)/\bg acc its/\W i n acc σ' H')
   ?_ m0 ⟨0,[],[],0,_,H,I₁,st₁,λb hb=>(hf b hb).1,hD0,hacc,.nil,w0⟩
  rintro n s' ⟨i,acc,its,k,σ',H',I',st',fr',hD',oD',rv',w'⟩;obtain⟨hlen,tt⟩:=turn i n acc σ' H' w'
  -- the gathered list,pinned
  have Ip:Inv Xb [(s.heap.objs.size,hV its k)] σ' H' s':=I'.pins_of λp hp=>by
   have e:p=(s.heap.objs.size,hV its k):=by simpa using hp
   subst e;exact⟨oD',hD',by rw[eL];exact hDC,hDs,λv z=>by cases z⟩
  have hpl:∀p∈[(s.heap.objs.size,hV its k)],p.1=s.heap.objs.size:=λp hp=>by
   have e:p=(s.heap.objs.size,hV its k):=by simpa using hp
   rw[e]
  rcases tt with⟨stop,q⟩ | ⟨go,N,hN,step⟩
  ·have d:=T.done Xb eP ew eK ec i _ s' σ' H' (λ_ _=>False) Ip (stat fr' hpl) st' stop
   rw[eA]at d;refine wpAny_mono d (λr s1 hr=>?_) λ_ _ z=>z;obtain⟨rfl,I1⟩:=hr;have oD1:s1.heap.get? s.heap.objs.size=some (hV its k):=(I1.pin _ (List.mem_append_right _ (J'.mpr rfl))).1;obtain⟨mC,hnC,_⟩:=I1.loc;rw[eL]at hnC;obtain⟨oC,_,_,hoC,_⟩:=id hnC;have hCH:H' H2.objs.size=none:=by have:=I1.free;rwa [eL]at this
   have ub:Un (mM X.stack) fp H H' s.heap s1.heap:=by have:=I1.base;rwa [ef,exx,eh,es]at this
   refine hRR _ _ s1 H' acc mC q hD' ?_ hnC ?_ ?_ ?_ ?_ ?_
   ·-- uf outside
    refine I.call' (ch:=fp) (by have:=I1.os;rwa [es]at this) ⟨λb o e n1 h1 h2=>ub.keep b o e n1 h1 h2,λb o e n1 h1 h2=>ub.slot b o e n1 h1 h2,λb o e n1 h1=>?_,ub.there,λb xs e=>?_,λb o u e=>?_,λb ps e=>?_⟩ ?_ (by have:=I1.bare;exact this) λb hb=>?_
    ·rw[ao (λz=>by rw[z]at e;exact absurd (Ky e) (KF _))]
     exact ub.free b o e n1 h1
    ·rw[ao (aC (ub.tups b xs e) hD')]
     exact ub.tups b xs e
    ·rw[ao (aC (ub.frzs b o u e) hD')]
     exact ub.frzs b o u e
    ·obtain⟨more,z⟩:=ub.tbls b ps e
     exact⟨more,by rw[ao (aC z hD')];exact z⟩
    ·intro b u e
     have hokb:=I1.hok;rw[eP,ew]at hokb
     by_cases hb:b=s.heap.objs.size
     ·subst hb
      rw[ac]at e;cases e;exact⟨Nat.le_of_lt hlen,its,k,rv',oD1⟩
     ·rw[ao hb]at e
      refine(hokb b u e).stay (λc v _ z=>z) (λc z=>?_) λc xs z=>?_
      ·rw[ao (aC z hD')];exact z
      ·rw[ao (aC z hD')];exact z
    ·exact⟨(hf b hb).2.2.2.1,(hf b hb).2.1,(hf b hb).2.2.2.2.1,(hf b hb).2.2.2.2.2⟩
   ·rw[ao hDC.symm];exact hCH
   ·intro z;have:=I.lt;rw[<- z]at this;exact absurd this (Nat.not_lt.mpr hCle)
   ·exact KD I.sz hCle
   ·intro x c e z
    obtain⟨v,o,ho,_⟩:=I.cell x c e;rw[z]at ho;exact absurd (Ky ho) (Nat.not_lt.mpr hCle)
   ·intro p hp z
    have:=(I.pin p hp).1;rw[z]at this;exact absurd (Ky this) (Nat.not_lt.mpr hCle)
  ·have d:=T.item Xb eP ew eK ec i _ s' σ' H' (λ_ _=>False) Ip (stat fr' hpl) st' go
   rw[eA]at d;refine wpAny_mono d (λr s1 hr=>?_) λ_ _ z=>z;obtain⟨u,rfl,d2⟩:=hr;refine wpAny_mono d2 (λ_ s2 hr2=>?_) λ_ _ z=>z;obtain⟨x,H2',I2,r2,y2,st2,fr2⟩:=hr2;have I2':=I2.pinned (stat fr2 hpl) (T.obj _ _ st2);have G:=hXb▸hg s H fp H2.objs.size;have d3:=G _ s2 σ' H2' x u _ I2' r2 (step x H2' y2);rw[eP,ew,eA,ex,eE]at d3;refine wpAny_mono d3 (λ_ s3 hr3=>?_) λ_ _ z=>z;obtain⟨σ3,H3,I3,q3⟩:=hr3;have Gi:=hXb▸hi s H fp H2.objs.size;have d4:=Gi _ s3 σ3 H3 _ I3 q3;rw[eP,ew,eA,ex,eE]at d4;refine wpAny_mono d4 (λb s4 hr4=>?_) λ_ _ z=>z;obtain⟨H4,I4,q4⟩:=hr4;have again:∀{s5:K8} {H5:Hp} {σ5:St},Inv Xb ([(s.heap.objs.size,hV its k)]++pT fp s2.heap) σ5 H5 s5->s5.heap.get? s.heap.objs.size=some (hV its k)/\H5 s.heap.objs.size=none/\tn (i+1) s5.heap/\∀b∈fp,H5 b=none:=fun{s5 H5 σ5} I5=>by
    have pD:=I5.pin (s.heap.objs.size,hV its k) (List.mem_append_right _ (List.mem_append_left _ (J'.mpr rfl)));refine⟨pD.1,pD.2.1,T.keep _ _ _ st2 λb hb o e=>(I5.pin (b,o) (List.mem_append_right _ (List.mem_append_right _ (iC hb e)))).1,λb hb=>?_⟩;obtain⟨o,e,_⟩:=T.obj _ _ st2 b hb;exact(I5.pin (b,o) (List.mem_append_right _ (List.mem_append_right _ (iC hb e)))).2.1
   have bare:∀{s5:K8} {H5:Hp} {σ5:St} {pl:K6},Inv Xb pl σ5 H5 s5->Inv Xb [] σ5 H5 s5:=λI5=>I5.pins_of λp hp=>nomatch hp;cases b with
   |false=>
    obtain⟨m',hm,w5⟩:=hN _ _ _ q4;obtain⟨a1,a2,a3,a4⟩:=again I4;exact⟨m',hm,i+1,acc,its,k,σ3,H4,bare I4,a3,a4,a2,a1,rv',w5⟩
   |true=>
    have Ge:=hXb▸he s H fp H2.objs.size;have d5:=Ge _ s4 σ3 H4 _ I4 q4;rw[eP,ew,eA,ex,eE]at d5;refine wpAny_mono d5 (λy s5 hr5=>?_) λ_ _ z=>z;obtain⟨v,H5,I5,r5,q5⟩:=hr5;obtain⟨m',hm,w5⟩:=hN _ _ _ q5;obtain⟨a1,a2,a3,a4⟩:=again I5;have hl:=rv'.length;refine call_meets F.slot_list_append ⟨_,a1,rfl⟩ F.entry_list_append (F.args_list_append_2 _ _) (PySem.list_append s.heap.objs.size its.toArray k y (by rw[Ke];omega)) ⟨a1,?_⟩;have qu:=PySem.IsL.update a1 (λx_1=>x_1.push y);have qe:(its.toArray.push y)=(its++[y]).toArray:=by simp
    rw[qe]at qu;have I6:Inv Xb [] σ3 H5 {s5 with heap:=s5.heap.update s.heap.objs.size (Obj.mapSeq λx_1=>x_1.push y),toks:=s5.toks}:=
     (bare I5).turned (λb o hb e=>(Kc s5.heap _ (Ne.symm hb)).trans e) a2 (by rw[eL];exact hDC) (.inr (by rw[es];exact Kv _)) hDcell (by rw[ep];intro p hp;exact nomatch hp)
    refine⟨m',hm,i+1,acc++[v],its++[y],_,σ3,H5,I6,T.keep _ _ _ a3 (λb hb o e=>(Kc s5.heap _ (hDf b hb).symm).trans e),a4,a2,qu,rv'.append (.cons r5 .nil),w5⟩
 refine codeAny_compStart_list (loop _ rfl) ?_;exact T.self _ 0 _ _ _ st₁ (loop _ rfl)
theorem cH{elt tg iter:Expr}{ifs:Li}{scope:Scope}{pos:Pos}(own:Le)(js:K7){wi:TI}{g:TG}{ti:TT}{te:TE}(hc:X.calm=true)(hk:bB scope X.env.scope)
  (hcap:(js.all λj=>scope.names.contains (X.N.getD j Str.empty,NameKind.free))=true) (hw:PI X tg iter wi)
  (hg:∀s H fp C,PG (X.blk (pI own js X.N) s H scope fp C) tg g) (hi:∀s H fp C,GM (X.blk (pI own js X.N) s H scope fp C) ifs ti) (he:∀s H fp C,PE (X.blk (pI own js X.N) s H scope fp C) elt te)
  (hs:autoParam (∀x,foldedSetIterable iter X.env x=pure x) zz4._auto_1):PE X (.ListComp elt [⟨tg,iter,ifs,0⟩] scope pos) (yX own.length js wi g ti te):=by
 intro pins s σ H Q I h;rw[eval_ListComp];refine wpAny_comprehension_free (use:=none) rfl hs (jI (I.capFree hk)) hk.kind hk.loc (bZ (hw pins s σ H _ I h) λv s1 h1=>bZ h1 λitv s2 h2=>?_);obtain⟨it,fp,tn,J,H2,rfl,I2,T,st2,f2,hW⟩:=h2;refine sG (RR:=λacc C=>compPost (model X.prog X.w) X.A X.xe none (EP X pins σ Q) acc C) (Q:=λacc H'=>∀l,H' l=none->Q (.ref l) (ax H' l (.lst acc))) hc hk hcap hg hi he I2 T st2 f2 hW ?_;intro D C s' H' acc m q hD I' hn hC0 hCL hCs hCc hCp;refine⟨m,hn,λh' sb=>?_⟩;exact⟨.ref D,_,I'.turned (t':=s'.toks) (λb o hb e=>(sb.2 b hb).trans e) hC0 hCL (.inr hCs) hCc hCp,rfl,q D hD⟩
theorem iF{i:Nat}{x:Str}{elt tg iter:Expr}{ifs:Li}{scope:Scope}{pos spos:Pos}{px:Pos}(own:Le)(js:K7){wi:TI}{g:TG}{ti:TT}{te:TE}(hN:X.N.Nodup)(hxi:X.N[i]?=some x)(hx:Loc X.env.scope x)
  (hsw:swapsWith (.ListComp elt [⟨tg,iter,ifs,0⟩] scope pos) (some (.Name x px)) spos.line X.env=pure true)
  (hc:X.calm=true) (hk:bB scope X.env.scope)
  (hcap:(js.all λj=>scope.names.contains (X.N.getD j Str.empty,NameKind.free))=true) (hw:PI X tg iter wi)
  (hg:∀s H fp C,PG (X.blk (pI own js X.N) s H scope fp C) tg g) (hi:∀s H fp C,GM (X.blk (pI own js X.N) s H scope fp C) ifs ti) (he:∀s H fp C,PE (X.blk (pI own js X.N) s H scope fp C) elt te)
  (hs:autoParam (∀x,foldedSetIterable iter X.env x=pure x) zz4._auto_1) (hf:autoParam (X.fn x=true\/X.env.scope.names.lookup x=some .local) zz3._auto_1) :
  PS X (.Assign [.Name x px] (.ListComp elt [⟨tg,iter,ifs,0⟩] scope pos) spos) (AJ (yX own.length js wi g ti te) (ld i)):=by
 intro pins s σ H Dn I h;rw[exec_Assign_Name_used _ _ _ _ hsw];refine wpAny_bind (wpAny_standAt (wpAny_bind ?_));show wpAny _ _ (do let _ <- comprehension (.ListComp elt [⟨tg,iter,ifs,0⟩] scope pos) scope X.env _ (newList []) false (eval iter X.env) (some (assign (.Name x px) X.env))) _ _ s;refine wpAny_bind (wpAny_mono (wpAny_comprehension_free (use:=some (assign (.Name x px) X.env)) (Q:=λ_ s'=>SP X pins Dn .next s') (E:=X.xe) rfl hs (jI (I.capFree hk)) hk.kind hk.loc ?_) (λ_ s' q=>wpAny_pure (wpAny_pure q)) λ_ _ z=>z);refine(bZ (hw pins s σ H _ I h) λv s1 h1=>bZ h1 λitv s2 h2=>?_);obtain⟨it,fp,tn,J,H2,rfl,I2,T,st2,f2,hW⟩:=h2;refine sG (RR:=λacc C=>compPost (model X.prog X.w) X.A X.xe (some (assign (.Name x px) X.env)) (λ_ s'=>SP X pins Dn .next s') acc C) (Q:=λacc H'=>∀l,H' l=none->ld i (.ref l) σ (ax H' l (.lst acc)) Dn.nx) hc hk hcap hg hi he I2 T st2 f2 hW ?_;intro D C s' H' acc m q hD I' hn hC0 hCL hCs hCc hCp;show wpAny _ _ (assign (.Name x px) X.env (.ref D)) _ _ s';refine wpAny_assign_Name (sF I' hN hxi hx (v:=.ref D) rfl (λs'' I'' sb=>?_) hf);obtain⟨a,sb,ha⟩:=sb;have hCa:C≠a:=by
  rcases ha with z | z
  ·rw[z];exact hCL
  ·exact(hCc x a z).symm
 refine⟨m,hn.sameBut sb hCa,λh' sb'=>?_⟩;exact⟨_,_,I''.turned (t':=s''.toks) (λb o hb e=>(sb'.2 b hb).trans e) hC0 hCL (.inr hCs) hCc hCp,q D hD⟩
end
section
variable {K:K5}{g:TG}{ti:TT}{te:TE}{σ:St}{H:Hp}{Q:List V->Hp->Prop}
theorem j'{J:It}{n:Nat}(Pv:Nat->List V->St->Hp->Prop)(h0:Pv 0 [] σ H)(hz:∀i acc σ H,Pv i acc σ H->acc.length<sizeLine)(hi:∀i acc σ H,Pv i acc σ H->i<=n)
  (stop:∀acc σ H,Pv n acc σ H->J.stop n H) (go:∀i acc σ H,i<n->Pv i acc σ H->J.go i H)
  (hs:∀i x acc σ H H2,i<n->Pv i acc σ H->J.yld i H x H2->g x σ H2 λσ2 H3=>ti σ2 H3 λb H4=>if b=true then te σ2 H4 λv H5=>Pv (i+1) (acc++[v]) σ2 H5 else Pv (i+1) acc σ2 H4)
  (he:∀acc σ H,Pv n acc σ H->Q acc H) :
  i9 J g ti te σ H Q:=by
 refine⟨λi m acc σ H=>Pv i acc σ H/\m=n+1-i,⟨n+1,h0,rfl⟩,?_⟩;rintro i m acc σ' H' ⟨w,rfl⟩;refine⟨hz i acc σ' H' w,?_⟩;have hle:=hi i acc σ' H' w;rcases Nat.lt_or_ge i n with hlt | hge
 ·refine .inr ⟨go i acc σ' H' hlt w,λacc' σ2 H2=>Pv (i+1) acc' σ2 H2,λacc' σ2 H2 w2=>⟨n+1-(i+1),?_,w2,rfl⟩,λx H2 y=>hs i x acc σ' H' H2 hlt w y⟩
  have:=hi (i+1) acc' σ2 H2 w2;omega
 ·have e:i=n:=by omega
  subst e;exact .inl ⟨stop acc σ' H' w,he acc σ' H' w⟩
theorem nj{a:Addr}{xs:List V}(Pv:Nat->List V->St->Hp->Prop)(h0:Pv 0 [] σ H)(hz:∀i acc σ H,Pv i acc σ H->acc.length<sizeLine)(hi:∀i acc σ H,Pv i acc σ H->i<=xs.length)
  (hl:∀i acc σ H,Pv i acc σ H->aS K H a xs)
  (hs:∀i x acc σ H,xs[i]?=some x->Pv i acc σ H->g x σ H λσ2 H3=>ti σ2 H3 λb H4=>if b=true then te σ2 H4 λv H5=>Pv (i+1) (acc++[v]) σ2 H5 else Pv (i+1) acc σ2 H4)
  (he:∀acc σ H,Pv xs.length acc σ H->Q acc H):i9 (DF K a) g ti te σ H Q:=by
 exact j' (J:=DF K a) (g:=g) (ti:=ti) (te:=te) (Q:=Q) (n:=xs.length) Pv h0 hz hi (λacc σ H w=>⟨xs,hl _ _ _ _ w,Kv _⟩)
  (λi acc σ H hlt w=>⟨xs,xs[i],hl _ _ _ _ w,J7 hlt⟩) (λi x acc σ H H2 hlt w y=>by obtain⟨rfl,hx⟩:=y;exact hs i x acc σ H2 (hx xs (hl _ _ _ _ w)) w) he
theorem fh{lo:Int}{n:Nat}(Pv:Nat->List V->St->Hp->Prop)(h0:Pv 0 [] σ H)(hz:∀i acc σ H,Pv i acc σ H->acc.length<sizeLine)(hi:∀i acc σ H,Pv i acc σ H->i<=n)
  (hs:∀i acc σ H,i<n->Pv i acc σ H->g (.int (lo+i)) σ H λσ2 H3=>ti σ2 H3 λb H4=>if b=true then te σ2 H4 λv H5=>Pv (i+1) (acc++[v]) σ2 H5 else Pv (i+1) acc σ2 H4)
  (he:∀acc σ H,Pv n acc σ H->Q acc H):i9 (Bm lo n) g ti te σ H Q:=by
 exact j' (J:=Bm lo n) (g:=g) (ti:=ti) (te:=te) (Q:=Q) (n:=n) Pv h0 hz hi (λacc σ H w=>Kv _) (λi acc σ H hlt w=>hlt) (λi x acc σ H H2 hlt w y=>by obtain⟨rfl,rfl⟩:=y;exact hs i acc σ H2 hlt w) he
end
structure eR(P:Ld)(w:Lg)(K:K5)(mg:Lb)(base:Heap)(CX:k8)(k:Nat)(x:Str)(ps:Le)(sp:Sp):Prop where
 ex:∃(f:Addr) (fd:Lc),aQ P w K mg base CX k f fd ps sp/\mg x=some (.ref f)/\PySem.W.keepIn K (.ref f)=true/\cn K fd ps []
structure NB(mg:Lb):Prop where
 len:mg "len"=none
 range:mg "range"=none
 list:mg "list"=none
 tuple:mg "tuple"=none
 isinstance:mg "isinstance"=none
 int:mg "int"=none
 bool:mg "bool"=none
 str:mg "str"=none
 reversed:mg "reversed"=none
 all:mg "all"=none
 enumerate:mg "enumerate"=none
 zip:mg "zip"=none
 sorted:mg "sorted"=none
 set:mg "set"=none
 dict:mg "dict"=none
 min:mg "min"=none
 max:mg "max"=none
 sum:mg "sum"=none
 ValueError:mg "ValueError"=none
section
variable {X:Cx}{CX:k8}{k:Nat}{x:Str}{ps:Le}{sp:Sp}{E:XK}{p pos:Pos}{e:Expr}{es:Li}{t:TA}
theorem aI(C:eR X.prog X.w X.K X.mg X.base CX k x ps sp)(hr:dr k X.A)(hg:Gl X x)(hx:cZ CX X E)(ha:PA X (e::es) t)(hdb:autoParam ((x==("__debug__":Str))=false) zz2._auto_1)
  (hst:autoParam (starEach (e::es) X.env=(false,eval e X.env)::starEach es X.env) zz0._auto_1) (hpl:autoParam ((backTo pos (starEach es X.env)).any (·.1)=false) zz0._auto_1):PE X (.Call (.Name x p) (e::es) [] pos) (nV sp [] E t):=by
 obtain⟨f,fd,F,hm,hk,hb⟩:=C.ex;exact DY F hr hg hm hk hb .nil hx ha hdb hst hpl
end
section
variable {X:Cx}{tg:Expr}
noncomputable def CO(_ j:Int):Prop:=0<j/\j<18446744073709551616
theorem ck:bd X (binaryOp .FloorDiv) (rI CO λi j=>.int (i/j)):=GE λi j _ _ _ _ _ hc q=>by
 have h1:(0:Int)<j:=hc.1;have h2:j<18446744073709551616:=hc.2;refine floordiv_int ⋯ (by rw[Int.fdiv_eq_ediv_of_nonneg i ⋯];exact q) (.inl (PyProof.noPylong_of_log2 ?_));have h64:j.natAbs.log2<64:=(Nat.log2_lt ⋯).mpr ⋯;omega
theorem lJ:∀{ys:Le} {us:K9},bg (ys.map V.str) us->StrsAre us ys
 | [],_,.nil=>.nil
 |y::ys,_,.cons r t=>by
  obtain⟨tk,rfl⟩:=r;exact .cons y tk (lJ t)
noncomputable def C8(K:K5):V->List V->Hp->VK->Prop:=λx xs H Q=>∃z p ys,x=.str z/\xs=[.ref p]/\(aS K H p (ys.map V.str)\/bh K H p (ys.map V.str))/\(ys.map (·.length)).sum+ys.length*z.length<=16777216/\Q (.str (Txt.join z ys)) H
theorem oP:HD X "str.join" (C8 X.K):=by
 intro pins s σ H x xs v us Q I rx rv h;obtain⟨z,p,ys,rfl,rfl,hs,hz,q⟩:=h;obtain⟨t,rfl⟩:=rx;obtain⟨u,rfl,ru⟩:=rv.one;cases ru;rcases hs with hs | hs
 ·obtain⟨its,r,pl,_⟩:=I.list hs
  exact join_list pl.isList (by simpa using lJ r) hz λt' k=>⟨.str _,H,I.tok k,⟨t',rfl⟩,q⟩
 ·obtain⟨its,r,pl,_⟩:=I.tuple hs
  exact join_tuple pl (by simpa using lJ r) hz λt' k=>⟨.str _,H,I.tok k,⟨t',rfl⟩,q⟩
noncomputable def Gd(x:Str):It:=⟨λi _=>i<x.cps.size,λi H v H'=>H'=H/\∃c,x.cps[i]?=some c/\v=.str ⟨#[c]⟩,λi _=>x.cps.size<=i⟩
theorem Cu{P:Ld}{w:Lg}{K:K5}{tg:Expr}(x:Str)(t:Tok)(it:Addr):pk P w K tg (Gd x) [it] it (λi h=>h.IsStrIter it (strIterType x) x t i) where
 mem:=by simp
 obj:=λi h st b hb=>by
  have e:b=it:=by simpa using hb
  subst e;obtain⟨o,e,c,d⟩:=st;exact⟨o,e,λv z=>by rw[d]at z;cases z⟩
 keep:=λi h h' st k=>by
  obtain⟨o,e,c,d⟩:=st;exact⟨o,k it (by simp) o e,c,d⟩
 item:=by
  intro X hP hw hK hc i pins s σ H E I hf st hg;subst hP hw hK;obtain⟨f0,f1,f2,f3,f4,f5⟩:=hf it (by simp);have hi:i<x.cps.size:=hg;have hx:x.cps[i]?=some x.cps[i]:=Array.getElem?_eq_getElem hi;have fin:∀h',h'.IsStrIter it (strIterType x) x t (i+1)->Heap.SameBut it s.heap h'->∃u,(some (Value.str ⟨#[x.cps[i]]⟩ s.toks))=some u /\
    wpAny (model X.prog X.w) X.A (letOwnedTupleGo tg (.ref it) u) (λ_ s2=>∃v H',Inv X pins σ H' s2/\bq v u/\(Gd x).yld i H v H'/\s2.heap.IsStrIter it (strIterType x) x t (i+1)/\∀b∈[it],H' b=none) E {s with heap:=h',toks:=s.toks+1}:=λh' st' sb=>by
   have I1:Inv X pins σ H {s with heap:=h',toks:=s.toks+1}:=I.turned (λb o hb e=>(sb.2 b hb).trans e) f0 f1 f3 f4 f5;obtain⟨o,e,c,d⟩:=id st';refine⟨_,rfl,vE (s:={s with heap:=h',toks:=s.toks+1}) e c d ?_ ⟨.str ⟨#[x.cps[i]]⟩,H,I1,⟨_,rfl⟩,⟨rfl,_,hx,rfl⟩,st',λb hb=>(hf b hb).1⟩⟩;unfold strIterType
   split<;>decide
  cases ha:x.cps.all (· < 128) with
  |true=>
   have ety:strIterType x="str_ascii_iterator":=by unfold strIterType;rw[ha];rfl
   rw[ety]at st fin ⊢;exact wpAny_pyNext_ascii_item st hx fin
  |false=>
   have ety:strIterType x="str_iterator":=by unfold strIterType;rw[ha];rfl
   rw[ety]at st fin ⊢;exact wpAny_pyNext_wide_item st hx fin
 done:=by
  intro X hP hw hK hc i pins s σ H E I hf st hg;subst hP hw hK;obtain⟨f0,f1,f2,f3,f4,f5⟩:=hf it (by simp);have hi:x.cps.size<=i:=hg;have hx:x.cps[i]?=none:=Array.getElem?_eq_none hi;cases ha:x.cps.all (· < 128) with
  |true=>
   have ety:strIterType x="str_ascii_iterator":=by unfold strIterType;rw[ha];rfl
   rw[ety]at st;exact wpAny_pyNext_ascii_end (I.ok.hd hc) st hx λh' eb=>⟨rfl,I.turned (t':=s.toks) (λb o hb e=>eb b o hb e) f0 f1 f3 f4 f5⟩
  |false=>
   have ety:strIterType x="str_iterator":=by unfold strIterType;rw[ha];rfl
   rw[ety]at st;exact wpAny_pyNext_wide_end (I.ok.hd hc) st hx λh' eb=>⟨rfl,I.turned (t':=s.toks) (λb o hb e=>eb b o hb e) f0 f1 f3 f4 f5⟩
 self:=λA i s Q E st h=>by
  cases ha:x.cps.all (· < 128) with
  |true=>
   have ety:strIterType x="str_ascii_iterator":=by unfold strIterType;rw[ha];rfl
   rw[ety]at st;exact wpAny_pyIter_striter_ascii st h
  |false=>
   have ety:strIterType x="str_iterator":=by unfold strIterType;rw[ha];rfl
   rw[ety]at st;exact wpAny_pyIter_striter_wide st h
noncomputable def Fo(tl:TE):TI:=λσ H R=>tl σ H λv H1=>∃x,v=.str x/\R (Gd x) H1
theorem EW{l:Expr}{tl:TE}(hl:PE X l tl):PI X tg l (Fo tl):=by
 intro pins s σ H R I h;refine bZ (hl pins s σ H _ I h) λv s1 ⟨x,H1,I1,r1,q1⟩=>?_;obtain⟨x,rfl,q⟩:=q1;obtain⟨t,rfl⟩:=r1;refine wpAny_pyIter_strU ?_;refine⟨s1.heap.objs.size,[s1.heap.objs.size],_,_,H1,rfl,I1.kept (t':=s1.toks) λb o e=>J9 _ e,Cu x t _,⟨_,Kd _ rfl,rfl,rfl⟩,λb hb=>?_,q⟩;have e:b=s1.heap.objs.size:=by simpa using hb
 subst e;exact I1.fpOk (Kv _) (I1.hok.fresh (Kv _))
noncomputable def Gx(K:K5)(a:Addr)(n:Nat):It:=
 ⟨λi H=>∃xs x,aS K H a xs/\i<n/\xs[n-1-i]?=some x,λi H x H'=>H'=H/\∀xs,aS K H a xs->xs[n-1-i]?=some x,λi _=>i=n⟩
theorem BE{P:Ld}{w:Lg}{K:K5}{tg:Expr}(a it:Addr)(n:Nat):pk P w K tg (Gx K a n) [it] it (λi h=>h.IsRevIter it a ((n:Int)-1-(i:Int))) where
 mem:=by simp
 obj:=λi h st b hb=>by
  have e:b=it:=by simpa using hb
  subst e;obtain⟨o,e,c,d⟩:=st;exact⟨o,e,λv z=>by rw[d]at z;cases z⟩
 keep:=λi h h' st k=>st.at λo e=>k it (by simp) o e
 item:=by
  intro X hP hw hK hc i pins s σ H E I hf st hg;subst hP hw hK;obtain⟨xs,x,hq,hi,hx⟩:=hg;obtain⟨its,rv,p,hz⟩:=I.list hq;obtain⟨u,hu,ru⟩:=rv.get hx;obtain⟨f0,f1,f2,f3,f4,f5⟩:=hf it (by simp);have e:(n:Int)-1-(i:Int)=((n-1-i:Nat):Int):=by omega
  have st1:=st;rw[e]at st1;refine wpAny_pyNext_rev_item st1 p.isList (x:=u) (by simpa using hu) λh' st' sb=>?_;have e2:((n-1-i:Nat):Int)-1=(n:Int)-1-((i+1:Nat):Int):=by omega
  rw[e2]at st';have I1:Inv X pins σ H {s with heap:=h' }:=I.turned (t':=s.toks) (λb o hb e=>(sb.2 b hb).trans e) f0 f1 f3 f4 f5;obtain⟨o,e,c,d⟩:=id st';exact⟨u,rfl,vE (s:={s with heap:=h' }) e c d nofun ⟨x,H,I1,ru,⟨rfl,λys hy=>by rw[I.list_inj hy hq];exact hx⟩,st',λb hb=>(hf b hb).1⟩⟩
 done:=by
  intro X hP hw hK hc i pins s σ H E I hf st hg;subst hP hw hK;obtain⟨f0,f1,f2,f3,f4,f5⟩:=hf it (by simp);have hi:i=n:=hg;subst hi;have e:(i:Int)-1-(i:Int) = -1:=by omega
  rw[e]at st;exact wpAny_pyNext_rev_end (I.ok.hd hc) st λh' eb=>⟨rfl,I.turned (t':=s.toks) (λb o hb e=>eb b o hb e) f0 f1 f3 f4 f5⟩
 self:=λ_ _ _ _ _ st h=>wpAny_pyIter_revIter st h
noncomputable def Fu(K:K5)(ta:TA):TI:=λσ H R=>ta σ H λvs H1=>∃a xs,vs=[.ref a]/\aS K H1 a xs/\R (Gx K a xs.length) H1
theorem wQ{a:Expr}{ta:TA}{p pos:Pos}(hg:Gl X "reversed")(hm:X.mg "reversed"=none)(ha:PA X [a] ta)(hs:autoParam (starEach [a] X.env=[(false,eval a X.env)]) zz0._auto_1):PI X tg (.Call (.Name "reversed" p) [a] [] pos) (Fu X.K ta):=by
 intro pins s σ H R I h;refine Call_ (e_ I hg hm boot_reversed (PyProof.Rows.callWith_type1 (bZ (ha pos pins s σ H _ I h) λus s1 ⟨vs,H1,I1,r1,q1⟩=>?_) hs rfl));obtain⟨l,xs,rfl,hq,q⟩:=q1;obtain⟨u,rfl,ru⟩:=r1.one;cases ru;obtain⟨its,rv,pl,hz⟩:=I1.list hq;have hlen:=rv.length;refine call_reversed_list pl.isList ?_;have es:its.toArray.size=xs.length:=by rw[Ke,hlen]
 rw[es];have I2:Inv X pins σ H1 {s1 with heap:=s1.heap.push (revObj l ((xs.length:Int)-1))}:=I1.kept (t':=s1.toks) λb o e=>J9 _ e;have st:(s1.heap.push (revObj l ((xs.length:Int)-1))).IsRevIter s1.heap.objs.size l ((xs.length:Int)-1-((0:Nat):Int)):=⟨_,Kd _ rfl,rfl,by simp[revObj]⟩;refine wpAny_pyIter_revIter st ?_;refine⟨s1.heap.objs.size,[s1.heap.objs.size],_,_,H1,rfl,I2,BE l _ xs.length,st,λb hb=>?_,q⟩;have e:b=s1.heap.objs.size:=by simpa using hb
 subst e;exact I1.fpOk (Kv _) (I1.hok.fresh (Kv _))
noncomputable def Fb:V->Option Int->Option Int->Hp->VK->Prop:=λx lo hi H Q=>∃z,x=.str z/\z.length<=sizeLine/\Q (.str (Txt.slice z lo hi)) H
theorem B0:GD X Fb:=by
 intro pins s σ H x v vl vu lo hi sl Q I rx hs pl pu h;obtain⟨z,rfl,hz,q⟩:=h;obtain⟨t,rfl⟩:=rx;have fin:∀t' k,EP X pins σ Q (.str (Txt.slice z lo hi) t') {s with toks:=k}:=λt' k=>⟨.str _,H,I.tok k,⟨t',rfl⟩,q⟩;refine⟨"str",_,F.slot_str_getitem.lookup,typeIs_str _ _ _,?_⟩;cases pl with
 |none=>
  cases pu with
  |none=>exact wpAny_getItem_str_slice (l:=none) (u:=none) (st:=none) hs rfl (post_val_or_str ⟨KD (Txt.slice_le z _ _) hz,fin⟩)
  |int j uj=>exact wpAny_getItem_str_slice (l:=none) (u:=some (j,uj)) (st:=none) hs rfl (post_val_or_str ⟨KD (Txt.slice_le z _ _) hz,fin⟩)
 |int i ui=>
  cases pu with
  |none=>exact wpAny_getItem_str_slice (l:=some (i,ui)) (u:=none) (st:=none) hs rfl (post_val_or_str ⟨KD (Txt.slice_le z _ _) hz,fin⟩)
  |int j uj=>exact wpAny_getItem_str_slice (l:=some (i,ui)) (u:=some (j,uj)) (st:=none) hs rfl (post_val_or_str ⟨KD (Txt.slice_le z _ _) hz,fin⟩)
noncomputable def GY(sep:Str)(ta:TA):TE:=λσ H Q=>ta σ H λvs H1=>∃x,vs=[.str x]/\x.length<=1000/\sep.length<=1000/\Q (.str (Txt.join sep (x.cps.toList.reverse.map λc=>(⟨#[c]⟩:Str)))) H1
theorem pG{e:Expr}{ta:TA}{sep:Str}{j:Nat}{p0 ap p1 p2 cpos:Pos}(hc:X.calm=true)(hg:Gl X "reversed")(hm:X.mg "reversed"=none)(ha:PA X [e] ta)
  (hfew:autoParam (((backTo cpos (starEach [.Call (.Name "reversed" p1) [e] [] p2] X.env)).all (λx=>!x.1)&&(backToKw cpos (keywordEach [] X.env)).all (λx=>x.1.isSome)
   && decide ([Expr.Call (.Name "reversed" p1) [e] [] p2].length+([]:List Keyword).length+(if([]:List Keyword).isEmpty then 0 else 1)<30))=true) zz0._auto_1)
  (hline:autoParam ((ap.endLine==cpos.line)=true) zz0._auto_1) (hs:autoParam (starEach [e] X.env=[(false,eval e X.env)]) zz0._auto_1) :
  PE X (.Call (.Attribute (.Constant (.str sep) j p0) "join" ap) [.Call (.Name "reversed" p1) [e] [] p2] [] cpos) (GY sep ta):=by
 intro pins s σ H Q I h;refine wpAny_Call_method_late rfl hfew hline rfl (bZ (jX (X:=X) pins s σ H (λv H1=>v=.str sep/\H1=H) I ⟨rfl,rfl⟩) λv s1 ⟨x,H1,I1,r1,hx⟩=>?_);obtain⟨rfl,rfl⟩:=hx;obtain⟨t0,rfl⟩:=r1;refine⟨"str",_,F.plainAttrs_str,F.slot_str_join,F.type_str_join,typeIs_str _ _ _,(λa z=>nomatch z),?_⟩;refine Calls.callWith_builtin rfl (Calls.evalArgs_plain ?_);show wpAny _ _ (spliced ((false,eval (.Call (.Name "reversed" p1) [e] [] p2) X.env)::[])) _ _ s1;refine Calls.spliced_cons ?_;refine Call_ (e_ I1 hg hm boot_reversed (PyProof.Rows.callWith_type1 (bZ (ha p2 pins s1 σ H1 _ I1 h) λus s2 ⟨vs,H2,I2,r2,q2⟩=>?_) hs rfl));obtain⟨x,rfl,hz,hsp,q⟩:=q2;obtain⟨u,rfl,ru⟩:=r2.one;obtain⟨t,rfl⟩:=ru;have hsl:sizeLine=16777216:=sizeLine_eq;refine l5 ⋯ (Calls.spliced_nil ?_);have I3:Inv X pins σ H2 {s2 with heap:=s2.heap.push (wE x t ((x.length:Int)-1)),toks:=s2.toks+1+1}:=I2.kept λb o e=>J9 _ e;have fp:=I2.fpOk (b:=s2.heap.objs.size) (H':=H2) (Kv _) (I2.hok.fresh (Kv _));obtain⟨f0,f1,f2,f3,f4,f5⟩:=fp;refine CU (I3.ok.hd hc) (I:=s2.heap.objs.size) (x:=x) (t:=t) ⟨_,Kd _ rfl,rfl,rfl⟩ hz hsp λs' t' k keep eg ed eo=>?_;obtain⟨h',g',d',k',o'⟩:=s';cases eg;cases ed;cases eo;exact⟨.str _,H2,I3.turned (t':=k) (λb o hb e=>keep b o hb e) f0 f1 f3 f4 f5,⟨t',rfl⟩,q⟩
noncomputable def Eg:V->Value
 | .ty n=>.type n
 | .ref a=>.ref a
 |_=>.none
noncomputable def uI:V->Bool
 | .ty _=>true
 | .ref _=>true
 |_=>false
theorem Ec{c:V}{u:Value}(r:bq c u)(h:uI c=true):u=Eg c:=by
 cases c with
 |ty n=>exact r
 |ref a=>exact r
 |_=>cases h
noncomputable def FY(K:K5):List V->Hp->VK->Prop:=λxs H Q=>∃x c t b,xs=[x,c]/\uI c=true/\kr K H x t/\PySem.W.kitOne K t (Eg c)=some b/\Q (.bl b) H
theorem fJ:gI X (.builtin "isinstance") (FY X.K):=by
 intro pins s σ H xs us Q I r h;obtain⟨x,c,t,b,rfl,hc,ty,e,q⟩:=h;obtain⟨u,v,rfl,ru,rv⟩:=r.two;rw[Ec rv hc];exact Bj I ru ty e λtk=>⟨.bl b,H,I.tok tk,rfl,q⟩
theorem BU(K:K5)(n:String):PySem.W.kitOne K (.type n) (.type n)=some true:=by
 unfold PySem.W.kitOne;rw[if_pos (beq_self_eq_true _)]
inductive Dt where
 |non | bl (b:Bool) | int (i:Int) | str (x:Str) | lst (ds:List Dt) | tup (ds:List Dt)
mutual
noncomputable def om(K:K5)(H:Hp):Dt->V->Prop
 | .non,v=>v=.non
 | .bl b,v=>v=.bl b
 | .int i,v=>v=.int i
 | .str x,v=>v=.str x
 | .lst ds,v=>∃a xs,v=.ref a/\aS K H a xs/\ig K H ds xs
 | .tup ds,v=>∃a xs,v=.ref a/\bh K H a xs/\ig K H ds xs
noncomputable def ig(K:K5)(H:Hp):List Dt->List V->Prop
 | [],xs=>xs=[]
 |d::ds,xs=>∃x r,xs=x::r/\om K H d x/\ig K H ds r
end
mutual
noncomputable def Dt.dep:Dt->Nat
 | .lst ds=>Dt.deps ds+1
 | .tup ds=>Dt.deps ds+1
 |_=>0
noncomputable def Dt.deps:List Dt->Nat
 | []=>0
 |d::ds=>max (Dt.dep d) (Dt.deps ds)
end
theorem ig.length{K:K5}{H:Hp}:∀{ds:List Dt} {xs:List V},ig K H ds xs->xs.length=ds.length
 | [],_,h=>by unfold ig at h;rw[h];rfl
 |d::ds,xs,h=>by
  unfold ig at h;obtain⟨x,r,rfl,_,h2⟩:=h;simp[ig.length h2]
theorem ig.get{K:K5}{H:Hp}:∀{ds:List Dt} {xs:List V} {j:Nat} {x:V},ig K H ds xs->xs[j]?=some x->∃d,ds[j]?=some d/\om K H d x
 | [],_,_,_,h,e=>by unfold ig at h;rw[h]at e;simp at e
 |d::ds,xs,j,x,h,e=>by
  unfold ig at h;obtain⟨y,r,rfl,h1,h2⟩:=h;cases j with
  |zero=>simp at e;subst e;exact⟨d,rfl,h1⟩
  |succ j=>
   obtain⟨d',e1,e2⟩:=ig.get (j:=j) h2 (by simpa using e);exact⟨d',by simpa using e1,e2⟩
theorem jP:∀{ds:List Dt} {j:Nat} {d:Dt},ds[j]?=some d->d.dep<=Dt.deps ds
 | [],_,_,e=>by simp at e
 |d'::ds,0,d,e=>by simp at e;subst e;unfold Dt.deps;omega
 |d'::ds,j+1,d,e=>by
  have:=jP (ds:=ds) (j:=j) (by simpa using e);unfold Dt.deps;omega
theorem ip(n:Nat):(List.range n).all (λ_=>true)=true:=by simp
theorem BM{pins:K6}{σ:St}{H:Hp}{s:K8}(I:Inv X pins σ H s):∀(n:Nat) (d:Dt) (A:Lf) {v u:V} {vv uu:Value},d.dep<=n->A.units+n<cLine->om X.K H d v->om X.K H d u->bq v vv->bq u uu->SeqAt.EqAt A s vv uu true:=by
 intro n
 induction n with
 |zero=>
  intro d A v u vv uu hd hA h1 h2 r1 r2;cases d with
  |non=>unfold om at h1 h2;subst h1 h2;have:=gj (A:=A) (s:=s) r1 r2 rfl rfl;exact this
  |bl b=>unfold om at h1 h2;subst h1 h2;have:=gj (A:=A) (s:=s) r1 r2 rfl rfl;simpa[qd]using this
  |int i=>unfold om at h1 h2;subst h1 h2;have:=gj (A:=A) (s:=s) r1 r2 rfl rfl;simpa[qd]using this
  |str x=>unfold om at h1 h2;subst h1 h2;have:=gj (A:=A) (s:=s) r1 r2 rfl rfl;simpa[qd]using this
  |lst ds=>unfold Dt.dep at hd;omega
  |tup ds=>unfold Dt.dep at hd;omega
 |succ n ih=>
  intro d A v u vv uu hd hA h1 h2 r1 r2;cases d with
  |non=>unfold om at h1 h2;subst h1 h2;have:=gj (A:=A) (s:=s) r1 r2 rfl rfl;exact this
  |bl b=>unfold om at h1 h2;subst h1 h2;have:=gj (A:=A) (s:=s) r1 r2 rfl rfl;simpa[qd]using this
  |int i=>unfold om at h1 h2;subst h1 h2;have:=gj (A:=A) (s:=s) r1 r2 rfl rfl;simpa[qd]using this
  |str x=>unfold om at h1 h2;subst h1 h2;have:=gj (A:=A) (s:=s) r1 r2 rfl rfl;simpa[qd]using this
  |lst ds=>
   unfold om at h1 h2;obtain⟨a,xs,rfl,ha,hxs⟩:=h1;obtain⟨b,ys,rfl,hb,hys⟩:=h2;cases r1;cases r2
   by_cases hab:a=b
   ·subst hab;exact SeqAt.EqAt.same _
   ·unfold Dt.dep at hd
    obtain⟨its,ra,pa,_⟩:=I.list ha;obtain⟨its2,rb,pb,_⟩:=I.list hb;have l1:=ra.length;have l2:=rb.length;have l3:=hxs.length;have l4:=hys.length
    have hsz:its.toArray.size=its2.toArray.size:=by simp;omega
    have q:=SeqAt.RcAt.lists (A:=A) (s:=s) (e:=λ_=>true) pa.isList pb.isList hsz ⋯ λj g1 g2=>by
     have g1':j<its.length:=by simpa using g1
     have g2':j<its2.length:=by simpa using g2
     have x1:xs[j]?=some xs[j]:=J7 ⋯;have y1:ys[j]?=some ys[j]:=J7 ⋯;obtain⟨d,e1,rd1⟩:=hxs.get x1;obtain⟨d',e2,rd2⟩:=hys.get y1;rw[e1]at e2;cases e2
     obtain⟨w1,f1,rr1⟩:=ra.get x1;obtain⟨w2,f2,rr2⟩:=rb.get y1;rw[J7 g1']at f1;rw[J7 g2']at f2;cases f1;cases f2
     have hdep:=jP e1;simp only[KU];exact ih d A.in1 ⋯ (by show A.units+1+n<cLine;omega) rd1 rd2 rr1 rr2
    rw[ip]at q;exact SeqAt.EqAt.of_refs hab q
  |tup ds=>
   unfold om at h1 h2;obtain⟨a,xs,rfl,ha,hxs⟩:=h1;obtain⟨b,ys,rfl,hb,hys⟩:=h2;cases r1;cases r2
   by_cases hab:a=b
   ·subst hab;exact SeqAt.EqAt.same _
   ·unfold Dt.dep at hd
    obtain⟨its,ra,pa,_⟩:=I.tuple ha;obtain⟨its2,rb,pb,_⟩:=I.tuple hb;have l1:=ra.length;have l2:=rb.length;have l3:=hxs.length;have l4:=hys.length
    have q:=SeqAt.RcAt.tuples (A:=A) (s:=s) (e:=λ_=>true) (show s.heap.IsTuple a its.toArray from pa) (show s.heap.IsTuple b its2.toArray from pb) ⋯ λj g1 g2=>by
     have g1':j<its.length:=by simpa using g1
     have g2':j<its2.length:=by simpa using g2
     have x1:xs[j]?=some xs[j]:=J7 ⋯;have y1:ys[j]?=some ys[j]:=J7 ⋯;obtain⟨d,e1,rd1⟩:=hxs.get x1;obtain⟨d',e2,rd2⟩:=hys.get y1;rw[e1]at e2;cases e2
     obtain⟨w1,f1,rr1⟩:=ra.get x1;obtain⟨w2,f2,rr2⟩:=rb.get y1;rw[J7 g1']at f1;rw[J7 g2']at f2;cases f1;cases f2
     have hdep:=jP e1;simp only[KU];exact ih d A.in1 ⋯ (by show A.units+1+n<cLine;omega) rd1 rd2 rr1 rr2
    have e0:((List.range (min its.toArray.size its2.toArray.size)).all (λ_=>true)&&its.toArray.size==its2.toArray.size)=true:=by
     rw[ip,Bool.true_and];simp;omega
    rw[e0]at q;exact SeqAt.EqAt.of_refs hab q
noncomputable def Gq(K:K5)(neg:Bool):R2:=λx y H Q=>
 (∃ds,Dt.deps ds<=40/\((om K H (.lst ds) x/\om K H (.lst ds) y)\/(om K H (.tup ds) x/\om K H (.tup ds) y))/\Q (.bl (!neg)) H) \/
 (∃a b xs ys,x=.ref a/\y=.ref b/\aS K H a xs/\aS K H b ys/\xs.length≠ys.length/\Q (.bl neg) H)
theorem Hg(hu:X.A.units+64<cLine):bd X (compareOp .Eq) (Gq X.K false):=by
 intro pins s σ H x y v u Q I rx ry h;rcases h with⟨ds,hd,h,q⟩ | ⟨a,b,xs,ys,rfl,rfl,ha,hb,hne,q⟩
 ·have fin:EP X pins σ Q (.bool true) s:=⟨.bl true,H,I,rfl,q⟩
  have item:∀{xs ys:List V} {its its2:K9},ig X.K H ds xs->ig X.K H ds ys->bg xs its->bg ys its2->∀j (h1:j<its.toArray.size) (h2:j<its2.toArray.size),SeqAt.EqAt X.A.in1 s its.toArray[j] its2.toArray[j] true:=fun{xs ys its its2} hxs hys ra rb j g1 g2=>by
   have l1:=ra.length;have l2:=rb.length;have l3:=hxs.length;have l4:=hys.length
   have g1':j<its.length:=by simpa using g1
   have g2':j<its2.length:=by simpa using g2
   have x1:xs[j]?=some xs[j]:=J7 ⋯;have y1:ys[j]?=some ys[j]:=J7 ⋯;obtain⟨d,e1,rd1⟩:=hxs.get x1;obtain⟨d',e2,rd2⟩:=hys.get y1;rw[e1]at e2;cases e2
   obtain⟨w1,f1,rr1⟩:=ra.get x1;obtain⟨w2,f2,rr2⟩:=rb.get y1;rw[J7 g1']at f1;rw[J7 g2']at f2;cases f1;cases f2
   have hdep:=jP e1;simp only[KU];exact BM I 40 d X.A.in1 ⋯ (by show X.A.units+1+40<cLine;omega) rd1 rd2 rr1 rr2
  rcases h with⟨h1,h2⟩ | ⟨h1,h2⟩
  ·unfold om at h1 h2
   obtain⟨a,xs,rfl,ha,hxs⟩:=h1;obtain⟨b,ys,rfl,hb,hys⟩:=h2;cases rx;cases ry
   obtain⟨its,ra,pa,_⟩:=I.list ha;obtain⟨its2,rb,pb,_⟩:=I.list hb;have l1:=ra.length;have l2:=rb.length;have l3:=hxs.length;have l4:=hys.length
   have q:=SeqAt.RcAt.lists (A:=X.A) (s:=s) (e:=λ_=>true) pa.isList pb.isList (by simp;omega) ⋯ (item hxs hys ra rb);rw[ip]at q;exact q _ _ _ _ fin
  ·unfold om at h1 h2
   obtain⟨a,xs,rfl,ha,hxs⟩:=h1;obtain⟨b,ys,rfl,hb,hys⟩:=h2;cases rx;cases ry
   obtain⟨its,ra,pa,_⟩:=I.tuple ha;obtain⟨its2,rb,pb,_⟩:=I.tuple hb;have l1:=ra.length;have l2:=rb.length;have l3:=hxs.length;have l4:=hys.length
   have q:=SeqAt.RcAt.tuples (A:=X.A) (s:=s) (e:=λ_=>true) (show s.heap.IsTuple a its.toArray from pa) (show s.heap.IsTuple b its2.toArray from pb) ⋯ (item hxs hys ra rb);have e0:((List.range (min its.toArray.size its2.toArray.size)).all (λ_=>true)&&its.toArray.size==its2.toArray.size)=true:=by
    rw[ip,Bool.true_and];simp;omega
   rw[e0]at q;exact q _ _ _ _ fin
 ·cases rx;cases ry
  obtain⟨its,ra,pa,_⟩:=I.list ha;obtain⟨its2,rb,pb,_⟩:=I.list hb;have l1:=ra.length;have l2:=rb.length
  exact SeqAt.RcAt.lists_lengths pa.isList pb.isList (by simp;omega) ⋯ _ _ _ _ ⟨.bl false,H,I,rfl,q⟩
theorem FW(hu:X.A.units+64<cLine):bd X (compareOp .NotEq) (Gq X.K true):=by
 intro pins s σ H x y v u Q I rx ry h;rcases h with⟨ds,hd,h,q⟩ | ⟨a,b,xs,ys,rfl,rfl,ha,hb,hne,q⟩
 ·have fin:EP X pins σ Q (.bool false) s:=⟨.bl false,H,I,rfl,q⟩
  have item:∀{xs ys:List V} {its its2:K9},ig X.K H ds xs->ig X.K H ds ys->bg xs its->bg ys its2->∀j (h1:j<its.toArray.size) (h2:j<its2.toArray.size),SeqAt.EqAt X.A.in1 s its.toArray[j] its2.toArray[j] true:=fun{xs ys its its2} hxs hys ra rb j g1 g2=>by
   have l1:=ra.length;have l2:=rb.length;have l3:=hxs.length;have l4:=hys.length
   have g1':j<its.length:=by simpa using g1
   have g2':j<its2.length:=by simpa using g2
   have x1:xs[j]?=some xs[j]:=J7 ⋯;have y1:ys[j]?=some ys[j]:=J7 ⋯;obtain⟨d,e1,rd1⟩:=hxs.get x1;obtain⟨d',e2,rd2⟩:=hys.get y1;rw[e1]at e2;cases e2
   obtain⟨w1,f1,rr1⟩:=ra.get x1;obtain⟨w2,f2,rr2⟩:=rb.get y1;rw[J7 g1']at f1;rw[J7 g2']at f2;cases f1;cases f2
   have hdep:=jP e1;simp only[KU];exact BM I 40 d X.A.in1 ⋯ (by show X.A.units+1+40<cLine;omega) rd1 rd2 rr1 rr2
  rcases h with⟨h1,h2⟩ | ⟨h1,h2⟩
  ·unfold om at h1 h2
   obtain⟨a,xs,rfl,ha,hxs⟩:=h1;obtain⟨b,ys,rfl,hb,hys⟩:=h2;cases rx;cases ry
   obtain⟨its,ra,pa,_⟩:=I.list ha;obtain⟨its2,rb,pb,_⟩:=I.list hb;have l1:=ra.length;have l2:=rb.length;have l3:=hxs.length;have l4:=hys.length
   have q:=SeqAt.RcNeAt.lists (A:=X.A) (s:=s) (e:=λ_=>true) pa.isList pb.isList (by simp;omega) ⋯ (item hxs hys ra rb);rw[ip]at q;exact q _ _ _ _ fin
  ·unfold om at h1 h2
   obtain⟨a,xs,rfl,ha,hxs⟩:=h1;obtain⟨b,ys,rfl,hb,hys⟩:=h2;cases rx;cases ry
   obtain⟨its,ra,pa,_⟩:=I.tuple ha;obtain⟨its2,rb,pb,_⟩:=I.tuple hb;have l1:=ra.length;have l2:=rb.length;have l3:=hxs.length;have l4:=hys.length
   have q:=SeqAt.RcNeAt.tuples (A:=X.A) (s:=s) (e:=λ_=>true) (show s.heap.IsTuple a its.toArray from pa) (show s.heap.IsTuple b its2.toArray from pb) ⋯ (item hxs hys ra rb);have e0:((List.range (min its.toArray.size its2.toArray.size)).all (λ_=>true)&&its.toArray.size==its2.toArray.size)=true:=by
    rw[ip,Bool.true_and];simp;omega
   rw[e0]at q;exact q _ _ _ _ fin
 ·cases rx;cases ry
  obtain⟨its,ra,pa,_⟩:=I.list ha;obtain⟨its2,rb,pb,_⟩:=I.list hb;have l1:=ra.length;have l2:=rb.length
  exact SeqAt.RcNeAt.lists_lengths pa.isList pb.isList (by simp;omega) ⋯ _ _ _ _ ⟨.bl true,H,I,rfl,q⟩
end
end L2
namespace bF
noncomputable abbrev Ht:=List Nat
noncomputable abbrev bF:=List Ht
noncomputable def fg(p:bF)(r c:Nat):Prop:=p.length=r/\∀x∈p,x.length=c
noncomputable def fH(p:bF):bF:=p.map List.reverse
noncomputable def col(p:bF)(i:Nat):Ht:=p.reverse.map λx=>x.getD i 0
noncomputable def fV(p:bF):bF:=(List.range (p.headD []).length).map (col p)
noncomputable def bu:Nat->bF->bF
 |0,p=>p
 |n+1,p=>bu n (fV p)
noncomputable def turned(p:bF)(t:Nat):bF:=bu (t%4) (if 4<=t then fH p else p)
theorem C5{p:bF}{r c i:Nat}(h:fg p r c)(hi:i<r):(p.getD i []).length=c:=by
 have hl:i<p.length:=by rw[h.1];exact hi
 rw[List.getD_eq_getElem?_getD,J7 hl];exact h.2 _ (Kf hl)
theorem bp{p:bF}{r c:Nat}(h:fg p r c)(hr:0<r):(p.headD []).length=c:=by
 have:=C5 h hr;cases p with
 |nil=>have:=h.1;simp at this;omega
 |cons x p=>simpa using this
theorem gJ{p:bF}{r c:Nat}(h:fg p r c):fg (fH p) r c:=by
 refine⟨by simp[fH,h.1],λx hx=>?_⟩;obtain⟨y,hy,rfl⟩:=KQ.mp hx;rw[Ko];exact h.2 y hy
theorem t_{p:bF}{r c:Nat}(h:fg p r c)(hr:0<r):fg (fV p) c r:=by
 refine⟨by unfold fV;rw[J_,List.length_range,bp h hr],λx hx=>?_⟩;obtain⟨i,_,rfl⟩:=KQ.mp hx;simp[col,h.1]
theorem cR:∀(n:Nat) {p:bF} {r c:Nat},fg p r c->0<r->0<c->fg (bu n p) (if n%2=0 then r else c) (if n%2=0 then c else r)
 |0,_,_,_,h,_,_=>h
 |n+1,p,r,c,h,hr,hc=>by
  have:=cR n (t_ h hr) hc hr;show fg (bu n (fV p)) _ _
  by_cases e:n%2=0
  ·rw[if_pos e,if_pos e]at this
   rw[if_neg ⋯,if_neg ⋯];exact this
  ·rw[if_neg e,if_neg e]at this
   rw[if_pos ⋯,if_pos ⋯];exact this
theorem v7{p:bF}{r c:Nat}(h:fg p r c)(hr:0<r)(hc:0<c)(t:Nat):fg (turned p t) (if t%2=0 then r else c) (if t%2=0 then c else r):=by
 unfold turned;have e:t%4%2=t%2:=by omega
 rw[<- e]
 split
 ·exact cR _ (gJ h) hr hc
 ·exact cR _ h hr hc
theorem mG(a b:Nat)(p:bF):bu a (bu b p)=bu (b+a) p:=by
 induction b generalizing p with
 |zero=>rw[Nat.zero_add];rfl
 |succ b ih=>show bu a (bu b (fV p))=_;rw[ih,Nat.add_right_comm];rfl
noncomputable def after(t u:Nat):Nat:=if u<4 then t/4*4+(t+u)%4 else(1-t/4)*4+(u+8-t)%4
noncomputable def uf(t:Nat):Nat:=if t<4 then(4-t)%4 else t
end bF
namespace QL
open PySem L2 bF
noncomputable def tx(r:K7):Str:=⟨r.toArray⟩
noncomputable def aD(p:bF):List V:=p.map λr=>V.str (tx r)
theorem au(r:K7):(tx r).length=r.length:=by show r.toArray.size=r.length;simp
theorem gK(r:K7):(tx r).cps.toList=r:=by show r.toArray.toList=r;simp
theorem ar(p:bF):(aD p).length=p.length:=by unfold aD;simp
theorem bb{p:bF}{i:Nat}(h:i<p.length):(aD p)[i]?=some (V.str (tx p[i])):=by unfold aD;rw[Ka,J7 h];rfl
theorem eN(p:bF)(r:K7):aD (p++[r])=aD p++[V.str (tx r)]:=by unfold aD;simp
theorem CH:∀(ys:List (List Nat)),Txt.join (Str.ofString "") (ys.map tx)=tx ys.flatten
 | []=>rfl
 |y::ys=>by
  have key:∀(zs:List (List Nat)) (a:K7),(zs.map tx).foldl (λacc (p:Str)=>acc++(Str.ofString "").cps++p.cps) a.toArray=(a++zs.flatten).toArray:=by
   intro zs
   induction zs with
   |nil=>intro a;simp
   |cons z zs ih=>
    intro a;rw[KC,List.foldl_cons];have e:a.toArray++(Str.ofString "").cps++(tx z).cps=(a++z).toArray:=by
     have e0:(Str.ofString "").cps=#[]:=rfl;rw[e0];show a.toArray ++ #[]++z.toArray=_;simp
    rw[e,ih];simp
  show(⟨(ys.map tx).foldl (λacc (p:Str)=>acc++(Str.ofString "").cps++p.cps) (tx y).cps⟩:Str)=_;show(⟨(ys.map tx).foldl (λacc (p:Str)=>acc++(Str.ofString "").cps++p.cps) y.toArray⟩:Str)=_;rw[key]
  rfl
theorem fY(r:K7):Txt.join (Str.ofString "") (r.map λc=>(⟨#[c]⟩:Str))=tx r:=by
 have e:(r.map λc=>(⟨#[c]⟩:Str))=(r.map λc=>[c]).map tx:=by rw[Kl];rfl
 rw[e,CH]
 congr 1
 clear e
 induction r with
 |nil=>rfl
 |cons c r ih=>simp[ih]
noncomputable def rR(p:bF):Prop:=p.length<=64/\∀r∈p,r.length<=64
theorem rR.of{p:bF}{r c:Nat}(h:fg p r c)(hr:r<=64)(hc:c<=64):rR p:=⟨by rw[h.1];exact hr,λx hx=>by rw[h.2 x hx];exact hc⟩
theorem bf{n:Nat}(h:n<=1000000):n<sizeLine:=by have:=sizeLine_eq;omega
theorem al{n:Nat}(h:n<=1000000):n<=sizeLine:=by have:=sizeLine_eq;omega
theorem ae{H:Hp}{l:Addr}{o:HO}(h:H l=none):az H (ax H l o):=λb u e=>by rw[ao (aC e h)];exact e
theorem gg{H0 H:Hp}{l:Addr}{o:HO}(s:az H0 H)(h:H0 l=none):az H0 (ax H l o):=λb u e=>by rw[ao (aC e h)];exact s b u e
theorem fB{p:bF}{r c i:Nat}(h:fg p r c)(hi:i<r):∃hl:i<p.length,(p[i]).length=c:=⟨by rw[h.1];exact hi,h.2 _ (Kf _)⟩
noncomputable def cQ(H:Hp)(p:bF)(Q:VK):Prop:=∀(l:Addr) (H':Hp),H l=none->H' l=some (.lst (aD p))->az H H'->Q (.ref l) H'
theorem yf{α:Type}{xs:List α}{i:Int}(h0:0<=i)(h1:i<xs.length):∃v,v∈xs/\jl xs i=some v:=by
 have hb:i.toNat<xs.length:=by omega
 obtain⟨j,hj⟩:∃j:Nat,i=(j:Int):=⟨i.toNat,⋯⟩;subst hj;exact⟨xs[j]'⋯,Kf _,bx (J7 ⋯)⟩
theorem tZ(K:K5):PySem.W.kitOne K (.type "int") (.type "bool")=some false:=by kernel_rfl
end QL
namespace L2
open PySem PySem.Spec PyProof.Rows
section
variable {X:Cx}
theorem a_:gI X (.builtin "len") (λxs H Q=>∃p ys,xs=[.ref p]/\aS X.K H p ys/\Q (.int ys.length) H):=λpins s σ H xs us Q I r ⟨p,ys,e,h,q⟩=>mi pins s σ H xs us Q I r ⟨p,ys,e,.inl h,q⟩
theorem zN:gI X (.builtin "len") (λxs H Q=>∃p ys,xs=[.ref p]/\bh X.K H p ys/\Q (.int ys.length) H):=λpins s σ H xs us Q I r ⟨p,ys,e,h,q⟩=>mi pins s σ H xs us Q I r ⟨p,ys,e,.inr h,q⟩
theorem vn{K:K5}{g:TG}{ti:TT}{te:TE}{σ:St}{H:Hp}{Q:List V->Hp->Prop}{a:Addr}{xs:List V}(Pv:Nat->List V->St->Hp->Prop)(h0:Pv 0 [] σ H)(hz:∀i acc σ H,Pv i acc σ H->acc.length<sizeLine)(hi:∀i acc σ H,Pv i acc σ H->i<=xs.length)
  (hl:∀i acc σ H,Pv i acc σ H->aS K H a xs)
  (hs:∀i x acc σ H,xs.reverse[i]?=some x->Pv i acc σ H->g x σ H λσ2 H3=>ti σ2 H3 λb H4=>if b=true then te σ2 H4 λv H5=>Pv (i+1) (acc++[v]) σ2 H5 else Pv (i+1) acc σ2 H4)
  (he:∀acc σ H,Pv xs.length acc σ H->Q acc H):i9 (Gx K a xs.length) g ti te σ H Q:=by
 have rv:∀{i:Nat} {x:V},i<xs.length->xs[xs.length-1-i]?=some x->xs.reverse[i]?=some x:=fun{i x} hi e=>by rw[List.getElem?_reverse hi];exact e
 exact j' (J:=Gx K a xs.length) (g:=g) (ti:=ti) (te:=te) (Q:=Q) (n:=xs.length) Pv h0 hz hi (λacc σ H w=>rfl)
  (λi acc σ H hlt w=>⟨xs,xs[xs.length-1-i]'⋯,hl _ _ _ _ w,hlt,J7 ⋯⟩) (λi x acc σ H H2 hlt w y=>by obtain⟨rfl,hx⟩:=y;exact hs i x acc σ H2 (rv hlt (hx xs (hl _ _ _ _ w))) w) he
theorem Ei(i j:Int):(DR (.int i) (.int j)=true)=True:=by simp[DR]
theorem lj{a:Expr}{ta:TE}(ha:PE X a ta)(he:∀whole,isTrue a X.env whole=(do let v <- whole;standAt a.pos;holding [v] (truthy v))):PT X a (v_ ta):=by
 intro pins s σ H Q I h;rw[he];refine wpAny_bind (bZ (ha pins s σ H _ I h) λv s1 ⟨x,H1,I1,r1,k,e,q⟩=>?_);subst e;cases r1;exact wpAny_bind (wpAny_standAt (wpAny_holding (wpAny_truthy_bool ⟨H1,I1,q⟩)))
noncomputable def uS(J:It)(g:TG)(tb:TS)(D:iK)(σ:St)(H:Hp):Prop:=∃W:Nat->Nat->St->Hp->Prop,(∃m,W 0 m σ H)/\∀i m σ H,W i m σ H ->
 (J.stop i H/\D.nx σ H)\/(J.go i H/\∃N:St->Hp->Prop,(∀σ' H',N σ' H'->∃m',m'<m/\W (i+1) m' σ' H')/\∀x H',J.yld i H x H'->g x σ H' λσ2 H2=>tb {D with nx:=N,ct:=N,bk:=D.nx} σ2 H2)
noncomputable def Cm(wi:TI)(g:TG)(tb:TS):TS:=λD σ H=>wi σ H λJ H1=>uS J g tb D σ H1
theorem bw{tg iter:Expr}{body:List Stmt}{wi:TI}{g:TG}{tb:TS}{pos:Pos}(hp:PassesOwn (model X.prog X.w) X.A X.env X.xe)(hc:X.calm=true)(hi:PI X tg iter wi)(hg:PG X tg g)(hb:wx X body tb)
  (hs:autoParam (∀x,foldedSetIterable iter X.env x=pure x) zz4._auto_1):PS X (.For tg iter body [] pos) (Cm wi g tb):=FM hp hc hi hg hb hs
section
variable {K:K5}{g:TG}{tb:TS}{D:iK}{σ:St}{H:Hp}
theorem dn{a:Addr}{xs:List V}(Pv:Nat->St->Hp->Prop)(h0:Pv 0 σ H)(hl:∀i σ H,i<=xs.length->Pv i σ H->aS K H a xs)
  (hs:∀i x σ H,xs[i]?=some x->Pv i σ H->g x σ H λσ2 H2=>tb {D with nx:=Pv (i+1),ct:=Pv (i+1),bk:=D.nx} σ2 H2) (hd:∀σ H,Pv xs.length σ H->D.nx σ H):uS (DF K a) g tb D σ H:=Dm Pv h0 hl hs hd
theorem wv{a:Addr}{xs:List V}(Pv:Nat->St->Hp->Prop)(h0:Pv 0 σ H)(hl:∀i σ H,i<=xs.length->Pv i σ H->bh K H a xs)
  (hs:∀i x σ H,xs[i]?=some x->Pv i σ H->g x σ H λσ2 H2=>tb {D with nx:=Pv (i+1),ct:=Pv (i+1),bk:=D.nx} σ2 H2) (hd:∀σ H,Pv xs.length σ H->D.nx σ H):uS (EI K a) g tb D σ H:=DU Pv h0 hl hs hd
theorem eW{lo:Int}{n:Nat}(Pv:Nat->St->Hp->Prop)(h0:Pv 0 σ H)
  (hs:∀i σ H,i<n->Pv i σ H->g (.int (lo+i)) σ H λσ2 H2=>tb {D with nx:=Pv (i+1),ct:=Pv (i+1),bk:=D.nx} σ2 H2) (hd:∀σ H,Pv n σ H->D.nx σ H):uS (Bm lo n) g tb D σ H:=AE Pv h0 hs hd
end
end
theorem aW:bootBuiltins "len"=some (.builtin "len"):=by decide +kernel
theorem iR:bootBuiltins "list"=some (.type "list"):=by decide +kernel
theorem Ce:bootBuiltins "tuple"=some (.type "tuple"):=by decide +kernel
theorem Fc:bootBuiltins "int"=some (.type "int"):=by decide +kernel
theorem D_:bootBuiltins "bool"=some (.type "bool"):=by decide +kernel
theorem hJ:bootBuiltins "isinstance"=some (.builtin "isinstance"):=by decide +kernel
theorem E_:bootBuiltins "all"=some (.builtin "all"):=by decide +kernel
end L2
namespace PtM
open PySem PySem.Builtin.Str PySem.StrLaws
end PtM
namespace L2
open PySem PySem.Spec PyProof.Rows
section
variable {X:Cx}{a b c d:Expr}{ta tb tc td:TE}{pos:Pos}
noncomputable def Fx(K:K5):List V->Hp->VK->Prop:=λxs H Q=>∃(p:Addr) (bs:List Bool),xs=[.ref p]/\aS K H p (bs.map V.bl)/\Q (.bl (bs.all id)) H
theorem yr:∀{bs:List Bool} {us:K9} {i:Nat} {u:Value},bg (bs.map V.bl) us->us[i]?=some u->∃k,bs[i]?=some k/\u=.bool k
 | [],_,_,_,.nil,e=>by simp at e
 |k::bs,_,0,u,.cons r _,e=>by simp at e;subst e;exact⟨k,rfl,r⟩
 |k::bs,_,i+1,u,.cons _ t,e=>by
  obtain⟨k',h1,h2⟩:=yr (i:=i) t (by simpa using e);exact⟨k',by simpa using h1,h2⟩
theorem A_(bs:List Bool):((List.range bs.length).all λi=>(bs[i]?).getD true)=bs.all id:=by
 rw[Bool.eq_iff_iff,KR,KR]
 constructor
 ·intro h x hx
  obtain⟨i,hi,e⟩:=List.getElem_of_mem hx;have q:=h i (List.mem_range.mpr hi);rw[J7 hi,Option.getD_some,e]at q;exact q
 ·intro h i hi
  have hi':=List.mem_range.mp hi;rw[J7 hi',Option.getD_some];exact h _ (Kf hi')
theorem BH(hc:X.calm=true):gI X (.builtin "all") (Fx X.K):=by
 intro pins s σ H xs us Q I r h;obtain⟨p,bs,rfl,hs,q⟩:=h;obtain⟨u,rfl,ru⟩:=r.one;cases ru;obtain⟨its,rv,pl,_⟩:=I.list hs;have hlt:p<s.heap.objs.size:=by obtain⟨_,e,_⟩:=pl.isList;exact Ky e
 have hlen:its.length=bs.length:=by rw[<- rv.length,J_]
 refine call_all_walk (wpAny_pyIter_list pl.isList ?_);refine⟨s.heap.objs.size,[s.heap.objs.size,p],[s.heap.objs.size],its.toArray.size,_,_,λi=>(bs[i]?).getD true,rfl,Walks.list (A:=X.A.in1) (I.ok.hd hc) _ p (Kr hlt) its.toArray,
  ⟨⟨_,Kd _ rfl,rfl,rfl⟩,pl.isList.push _⟩,λi v s' Q' E' hP hQ=>?_,λh' tk hk=>?_⟩
 ·obtain⟨k,e,rfl⟩:=yr (i:=i) rv (by simpa using hP)
  dsimp only at hQ;rw[e,Option.getD_some]at hQ;exact wpAny_truthy_bool hQ
 ·have e:((List.range its.toArray.size).all λi=>(bs[i]?).getD true)=bs.all id:=by rw[Ke,hlen];exact A_ bs
  rw[e];exact⟨.bl _,H,I.kept (t':=tk) λb o eo=>hk b o (λhm=>by rw[J'.mp hm]at eo;exact KF _ (Ky eo)) (J9 _ eo),rfl,q⟩
end
section
variable {K:K5}{g:TG}{ti:TT}{te:TE}{σ:St}{H:Hp}{Q:List V->Hp->Prop}
theorem BN{a:Addr}{xs:List V}(Pv:Nat->List V->St->Hp->Prop)(h0:Pv 0 [] σ H)(hz:∀i acc σ H,Pv i acc σ H->acc.length<sizeLine)(hi:∀i acc σ H,Pv i acc σ H->i<=xs.length)
  (hl:∀i acc σ H,Pv i acc σ H->bh K H a xs)
  (hs:∀i x acc σ H,xs[i]?=some x->Pv i acc σ H->g x σ H λσ2 H3=>ti σ2 H3 λb H4=>if b=true then te σ2 H4 λv H5=>Pv (i+1) (acc++[v]) σ2 H5 else Pv (i+1) acc σ2 H4)
  (he:∀acc σ H,Pv xs.length acc σ H->Q acc H):i9 (EI K a) g ti te σ H Q:=by
 exact j' (J:=EI K a) (g:=g) (ti:=ti) (te:=te) (Q:=Q) (n:=xs.length) Pv h0 hz hi (λacc σ H w=>⟨xs,hl _ _ _ _ w,Kv _⟩)
  (λi acc σ H hlt w=>⟨xs,xs[i],hl _ _ _ _ w,J7 hlt⟩) (λi x acc σ H H2 hlt w y=>by obtain⟨rfl,hx⟩:=y;exact hs i x acc σ H2 (hx xs (hl _ _ _ _ w)) w) he
end
end L2
namespace QL
open PySem L2 bF PySem.Builtin PySem.Builtin.Str
theorem w_(row:K7)(i k:Nat)(h:i+k<=row.length):((List.range k).map λm=>i+m).filterMap (λj=>row[j]?)=(row.drop i).take k:=by
 rw[List.filterMap_map]
 induction k with
 |zero=>simp
 |succ k ih=>
  rw[List.range_succ,List.filterMap_append,ih ⋯,List.take_add_one,List.getElem?_drop];have e:i+k<row.length:=by omega
  simp[J7 e]
noncomputable def C_(n:Nat)(d:Int):Option Int->Int
 |none=>d
 |some i=>max 0 (min (if i<0 then i+(n:Int) else i) (n:Int))
theorem v6(n d:Nat)(v:Option Int):C_ n (d:Int) v=((HT.sIx n d v:Nat):Int):=by
 cases v with
 |none=>rfl
 |some v=>
  show max 0 (min (if v<0 then v+(n:Int) else v) (n:Int))=(((if v<0 then(v+(n:Int)).toNat else min v.toNat n:Nat)):Int)
  by_cases hv:v<0
  ·rw[if_pos hv,if_pos hv,Int.max_def,Int.min_def]
   split<;>split at * <;> omega
  ·rw[if_neg hv,if_neg hv,Int.max_def,Int.min_def]
   split<;>split at * <;> omega
theorem xf(lo hi:Option Int)(n:Nat):strSliceIndices lo hi 1 n=sliceRange (C_ n ((0:Nat):Int) lo) (C_ n (n:Int) hi) 1:=by cases lo<;>cases hi<;>rfl
theorem rM(row:K7)(lo hi:Option Int):Txt.slice (tx row) lo hi=tx ((row.drop (HT.sIx row.length 0 lo)).take (HT.sIx row.length row.length hi-HT.sIx row.length 0 lo)):=by
 have hl:=HT.sIx_le row.length 0 (Kw _) lo;have hh:=HT.sIx_le row.length row.length (Kv _) hi;have key:strSliceIndices lo hi 1 (tx row).length=(List.range (HT.sIx row.length row.length hi-HT.sIx row.length 0 lo)).map λm=>HT.sIx row.length 0 lo+m:=by
  rw[au,xf,v6,v6];generalize HT.sIx row.length 0 lo=a;generalize HT.sIx row.length row.length hi=b;unfold sliceRange;have en:(if(1:Int)>0 then(if(a:Int)<(b:Int) then((b:Int)-(a:Int)+1-1)/1 else 0) else(if(a:Int)>(b:Int) then((a:Int)-(b:Int)-1-1)/(-1) else 0)).toNat=b-a:=by
   rw[if_pos nofun]
   split<;>omega
  show(List.range (if(1:Int)>0 then(if(a:Int)<(b:Int) then((b:Int)-(a:Int)+1-1)/1 else 0) else(if(a:Int)>(b:Int) then((a:Int)-(b:Int)-1-1)/(-1) else 0)).toNat).map (fun(k:Nat)=>((a:Int)+1*(k:Int)).toNat)=_;rw[en];refine List.map_congr_left λm _=>?_;omega
 unfold Txt.slice;rw[key];generalize HT.sIx row.length 0 lo=a at hl ⊢;generalize HT.sIx row.length row.length hi=b at hh ⊢
 by_cases hab:a+(b-a)<=row.length
 ·have e:(((List.range (b-a)).map λm=>a+m).filterMap λj=>(tx row).cps[j]?)=(row.drop a).take (b-a):=by
   rw[<- w_ row a (b-a) hab]
   congr 1
   funext j
   show row.toArray[j]?=row[j]?;simp
  rw[e]
  split
  ·rename_i hw
   simp at hw;rw[au]at hw;have ha0:a=0:=by omega
   have hb0:b-a=row.length:=by omega
   rw[ha0,K3];rw[ha0]at hb0;rw[hb0,KL]
  ·rfl
 ·exact absurd hab ⋯
end QL
namespace L2
open PySem PySem.Spec PyProof.Rows
section
variable {X:Cx}{K:K5}{tg:Expr}
theorem yQ(hK:X.K=K):EZ X (AK K):=hK▸Ck
end
end L2
namespace PySem
open Sem (wp)
noncomputable def TrD(cp:Value->Prop)(h base:Heap)(e:Addr)(cls:Value)(od:Lh)(fl:Value):Prop:=
 ∃oe vs T oT ts,h.get? e=some oe/\oe.cls=cls/\oe.dict=od/\oe.data=.fields vs/\vs[1]?=some (.ref T)/\base.get? T=none/\T≠e/\h.get? T=some oT/\oT.data=.fields ts/\ts[3]?=some fl/\∃cx,vs[2]?=some cx/\cp cx
structure l_(cp:Value->Prop)(base:Heap)(l:List Env)(e:Addr)(cls:Value)(od:Lh)(fl:Value)(h:Heap):Prop where
 st:base.StaysIn h
 new:base.get? e=none
 ff:h.FunFrames base l
 tr:TrD cp h base e cls od fl
theorem pS(o:Obj)(f:Array Value->Array Value):(Obj.mapFields f o).dict=o.dict:=by unfold Obj.mapFields;split<;>rfl
section
variable {cp:Value->Prop}{M:Model}{A:Lf}{E:K4}{s:K8}{base:Heap}{env:Env}{outer:List Env}{L e:Addr}{Q:Unit->Shared->Prop}
theorem yU{cls fl:Value}{od:Lh}{l:List Env}(x:l_ cp base l e cls od fl s.heap)(h:∀h',l_ cp base l e cls od .none h'->s.heap.UpToSlots h'->Q () {s with heap:=h' }):wpAny M A (setFlight (.ref e) none) Q E s:=by
 obtain⟨oe,vs,T,oT,ts,he,hc,ho,hd,h1,hnT,hTe,hT,hdT,h3,hcx⟩:=x.tr;have hsz:3<ts.size:=(Array.getElem?_eq_some_iff.mp h3).1;have oth:∀b,b≠T->(s.heap.update T (Obj.mapFields (·.setIfInBounds 3 Value.none))).get? b=s.heap.get? b:=λb hb=>Kc _ _ (Ne.symm hb);have nrec:∀b o,s.heap.get? b=some o->(∀vs,o.data≠.fields vs)->b≠T:=λb o hb hnf q=>by rw[q,hT]at hb;injection hb with hb;subst hb;exact hnf ts hdT
 unfold setFlight;refine wpAny_bind (wpAny_field he hd h1 ?_);rw[if_pos (show(Value.ref T != Value.none)=true from by simp)];refine wpAny_setField hT hdT hsz (h _ ⟨λb o hb=>(oth b λq=>by rw[q,hnT]at hb;cases hb).trans (x.st b o hb),x.new,x.ff.of_keeps λb o hb hnf=>⟨o,(oth b (nrec b o hb hnf)).trans hb,rfl⟩,?_⟩ λb o hb hnf=>⟨o.slots,(oth b (nrec b o hb hnf)).trans hb⟩);exact⟨oe,vs,T,_,_,(oth e (Ne.symm hTe)).trans he,hc,ho,hd,h1,hnT,hTe,Kh _ hT (Obj.isFreed_of_fields (Obj.data_mapFields hdT _)),Obj.data_mapFields hdT _,by simp[hsz],hcx⟩
theorem Do{oe:Obj}{vs:Array Value}{head:Value}{hadNext:Bool}(hfr:A.frames=some (env::outer))(hl:s.heap.FunFrames base (env::outer))(hf:env.frame=some L)
  (he:s.heap.get? e=some oe) (hkb:base.StaysIn s.heap) (hen:base.get? e=none) (hd:oe.data=.fields vs) (hsz:1<vs.size) (hcx:∃cx,vs[2]?=some cx/\cp cx)
  (h:∀h',l_ cp base (env::outer) e oe.cls oe.dict (rawInt L) h'->s.heap.UpToSlots h'->Q () {s with heap:=h' }) :
  wpAny M A (do let a <- frameOf env;let pl <- entryPlaceOf L hadNext;let b <- EntryCells.newEntry head a .none (rawInt L) .none pl;setField (.ref e) 1 b) Q E s:=by
 have hene:e∉(env::outer).filterMap (·.frame):=λhm=>by
  obtain⟨_,o,ho,hnf⟩:=hl.mem hm;rw[he]at ho;injection ho with ho;subst ho;exact hnf vs hd
 refine wpAny_bind (wpAny_frameOf_fun hfr hl hf λh₁ hs₁=>?_);refine wpAny_bind (wpAny_entryPlaceOf λpl hpl=>?_);unfold EntryCells.newEntry newFields;refine wpAny_bind (wpAny_newObj_type ?_ (hpl.sizeOk5 _ _ _ _ _));have he₁:h₁.get? e=some oe:=(hs₁.2.1 e hene).trans he;have kb₁:base.StaysIn h₁:=λb o hb=>(hs₁.2.1 b λhm=>by rw[(hl.mem hm).1]at hb;cases hb).trans (hkb b o hb);generalize hT0:({cls:=.type "traceback",dict:=none,data:=.fields ([head,.ref L,.none,rawInt L,.none]++(if pl.isEmpty then List.replicate 6 Value.none else pl)).toArray}:Obj)=To;have dTo:To.data=.fields ([head,.ref L,.none,rawInt L,.none]++(if pl.isEmpty then List.replicate 6 Value.none else pl)).toArray:=by rw[<- hT0]
 have he₂:=J9 (h:=h₁) To he₁;have hTe:h₁.objs.size≠e:=Nat.ne_of_gt (Ky he₁);have keep:∀b o,b≠e->h₁.get? b=some o->((h₁.push To).update e (Obj.mapFields (·.setIfInBounds 1 (Value.ref h₁.objs.size)))).get? b=some o:=λb o hbe hb=>by
  rw[Kc _ _ (Ne.symm hbe)];exact J9 _ hb
 have nrec:∀b o,s.heap.get? b=some o->(∀vs,o.data≠.fields vs)->b≠e:=λb o hb hnf q=>by
  rw[q,he]at hb
  injection hb with hb
  subst hb;exact hnf vs hd
 refine wpAny_setField he₂ hd hsz (h _ ?_ ?_)
 ·have hd₃:=Obj.data_mapFields hd (·.setIfInBounds 1 (Value.ref h₁.objs.size))
  refine⟨λb o hb=>keep b o (λq=>by rw[q,hen]at hb;cases hb) (kb₁ b o hb),hen,hl.of_keeps λb o hb hnf=>?_,?_⟩
  ·obtain⟨sl,hs⟩:=hs₁.2.2 b o hb
   exact⟨_,keep b _ (nrec b o hb hnf) hs,rfl⟩
  ·refine⟨_,_,h₁.objs.size,To,_,Kh _ he₂ (Obj.isFreed_of_fields hd₃),Obj.cls_mapFields _ _,pS _ _,hd₃,by simp[hsz],kb₁.fresh,hTe,?_,dTo,?_,?_⟩
   ·rw[Kc _ _ (Ne.symm hTe)]
    refine Kd _ ?_;rw[<- hT0];rfl
   ·first | (simp;done) | (rcases hpl with rfl | ⟨_,_,_,_,_,_,_,rfl⟩<;>simp)
   ·obtain⟨cx,h2,hp⟩:=hcx
    exact⟨cx,by rw[Array.getElem?_setIfInBounds_ne nofun];exact h2,hp⟩
 ·intro b o hb hnf
  obtain⟨sl,hs⟩:=hs₁.2.2 b o hb;exact⟨sl,keep b _ (nrec b o hb hnf) hs⟩
theorem Gs{cls:Value}{od:Lh}(hfr:A.frames=some (env::outer))(hf:env.frame=some L)(x:l_ cp base (env::outer) e cls od .none s.heap)
  (h:∀h',l_ cp base (env::outer) e cls od (rawInt L) h'->s.heap.UpToSlots h'->Q () {s with heap:=h' }):wpAny M A (noteFrame (.ref e) env) Q E s:=by
 obtain⟨oe,vs,T,oT,ts,he,hc,ho,hd,h1,hnT,hTe,hT,hdT,h3,hcx⟩:=x.tr;subst hc ho;unfold noteFrame;simp only[hf];refine wpAny_bind (wpAny_field he hd h1 ?_);rw[if_pos (show(Value.ref T != Value.none)=true from by simp)];refine wpAny_bind (wpAny_field hT hdT h3 ?_);rw[if_neg (show ¬ ((Value.none==rawInt L)=true) from by simp[rawInt])];refine wpAny_bind (wpAny_setField hT hdT (Array.getElem?_eq_some_iff.mp h3).1 ?_);have oth:∀b,b≠T->(s.heap.update T (Obj.mapFields (·.setIfInBounds 3 Value.none))).get? b=s.heap.get? b:=λb hb=>Kc _ _ (Ne.symm hb);have nrec:∀b o,s.heap.get? b=some o->(∀vs,o.data≠.fields vs)->b≠T:=λb o hb hnf q=>by rw[q,hT]at hb;injection hb with hb;subst hb;exact hnf ts hdT
 refine Do hfr (x.ff.of_keeps λb o hb hnf=>⟨o,(oth b (nrec b o hb hnf)).trans hb,rfl⟩) hf ((oth e (Ne.symm hTe)).trans he) (λb o hb=>(oth b λq=>by rw[q,hnT]at hb;cases hb).trans (x.st b o hb)) x.new hd (Array.getElem?_eq_some_iff.mp h1).1 hcx λh' y up=>h h' y λb o hb hnf=>up b o ((oth b (nrec b o hb hnf)).trans hb) hnf
theorem FF{oe:Obj}{vs:Array Value}(hfr:A.frames=some (env::outer))(hl:s.heap.FunFrames base (env::outer))(hf:env.frame=some L)(he:s.heap.get? e=some oe)(hkb:base.StaysIn s.heap)(hen:base.get? e=none)(hd:oe.data=.fields vs)(h1:vs[1]?=some .none)(hcx:∃cx,vs[2]?=some cx/\cp cx)
  (h:∀h',l_ cp base (env::outer) e oe.cls oe.dict (rawInt L) h'->s.heap.UpToSlots h'->Q () {s with heap:=h' }):wpAny M A (noteFrame (.ref e) env) Q E s:=by
 unfold noteFrame;simp only[hf];refine wpAny_bind (wpAny_field he hd h1 ?_);rw[if_neg nofun];exact Do hfr hl hf he hkb hen hd (Array.getElem?_eq_some_iff.mp h1).1 hcx h
theorem l_.drop{cls fl:Value}{od:Lh}{h:Heap}(x:l_ cp base (env::outer) e cls od fl h):l_ cp base outer e cls od fl h:=⟨x.st,x.new,x.ff.2.2,x.tr⟩
theorem Fe{cls:Value}{od:Lh}(hfr:A.frames=some (env::outer))(hf:env.frame=some L)(x:l_ cp base (env::outer) e cls od .none s.heap)
  (h:∀h',l_ cp base outer e cls od .none h'->s.heap.UpToSlots h'->Q () {s with heap:=h' }):wpAny M A (leaving env (.ref e)) Q E s:=by
 unfold leaving;exact wpAny_bind (Gs hfr hf x λh1 y1 u1=>yU y1 λh2 y2 u2=>h h2 y2.drop (u1.trans u2))
theorem yS{oe:Obj}{vs:Array Value}(hfr:A.frames=some (env::outer))(hl:s.heap.FunFrames base (env::outer))(hf:env.frame=some L)(he:s.heap.get? e=some oe)(hkb:base.StaysIn s.heap)(hen:base.get? e=none)(hd:oe.data=.fields vs)(h1:vs[1]?=some .none)(hcx:∃cx,vs[2]?=some cx/\cp cx)
  (h:∀h',l_ cp base outer e oe.cls oe.dict .none h'->s.heap.UpToSlots h'->Q () {s with heap:=h' }):wpAny M A (leaving env (.ref e)) Q E s:=by
 unfold leaving;exact wpAny_bind (FF hfr hl hf he hkb hen hd h1 hcx λh1 y1 u1=>yU y1 λh2 y2 u2=>h h2 y2.drop (u1.trans u2))
end
end PySem
namespace L2
open PySem PySem.Spec PyProof.Rows
structure Fly0(P:Ld)(w:Lg)(outer:List Env)(H:Hp)(s:K8)(B:Heap)(H':Hp)(s':K8):Prop where
 st:B.StaysIn s'.heap
 ff:s'.heap.FunFrames B outer
 un:Un (mM outer) [] H H' s.heap s'.heap
 hok:km P w H' s'.heap
 cov:∀b o,H' b=some o->∃ob,B.get? b=some ob
 old:∀b o,s.heap.get? b=some o->b∉mM outer->∃o',B.get? b=some o'
 os:s'.os=s.os
 bare:AllBare s'.gens
structure Gw(cp:Value->Prop)(P:Ld)(w:Lg)(outer:List Env)(H:Hp)(s:K8)(B:Heap)(H':Hp)(s':K8)(ea:Addr)(cls:Value)(od:Lh):Prop extends Fly0 P w outer H s B H' s' where
 fl:l_ cp B outer ea cls od .none s'.heap
noncomputable def GG(cp:Value->Prop)(P:Ld)(w:Lg):k8:=λouter H s E e s'=>∃ea cls od B H',e=.ref ea/\Gw cp P w outer H s B H' s' ea cls od/\H' ea=none/\E cls od H'
noncomputable abbrev bz(P:Ld)(w:Lg):k8:=GG (λv=>v=.none) P w
theorem bc{cp:Value->Prop}{P:Ld}{w:Lg}{X:Cx}:cZ (GG cp P w) X (λ_ _ _=>False):=λ_ _ _ _ _ _ _ h=>by
 obtain⟨_,_,_,_,_,_,_,_,f⟩:=h;exact f.elim
theorem zY{P:Ld}{w:Lg}{H:Hp}{B h h':Heap}(ok:km P w H h)(cov:∀b o,H b=some o->∃ob,B.get? b=some ob)(k:B.StaysIn h)(k':B.StaysIn h'):km P w H h':=λa o e=>
 (ok a o e).stay (λb u hb q=>by
  have hb':∃ob,B.get? b=some ob:=by
   rcases hb with rfl | hb
   ·exact cov _ _ e
   ·exact cov _ _ hb
  obtain⟨ob,hB⟩:=hb';have:=k b ob hB;rw[q]at this;cases this;exact k' b _ hB) (λ_ q=>q) λ_ _ q=>q
theorem bS.there{P:Ld}{w:Lg}{H:Hp}{h:Heap}{a:Addr}{o:HO}(x:bS P w H h a o):∃ob,h.get? a=some ob:=by
 cases o with
 |lst xs=>obtain⟨_,_,_,_,e⟩:=x;exact⟨_,e⟩
 |tup xs=>obtain⟨_,_,_,ob,e,_⟩:=x;exact⟨_,e⟩
 |dK kvs=>obtain⟨_,_,_,_,o,_,_,e,_⟩:=x;exact⟨_,e⟩
 |dT kvs=>obtain⟨_,_,_,_,o,_,_,e,_⟩:=x;exact⟨_,e⟩
 |set S n=>obtain⟨o,_,_,_,e,_⟩:=x;exact⟨_,e⟩
 |ins C dx fs=>obtain⟨_,_,_,e,_⟩:=x;exact⟨_,e⟩
 |own y=>exact x
 |xd fs=>obtain⟨_,⟨_,_,_,e,_⟩,_⟩:=x;exact⟨_,e⟩
 |rng lo hi=>obtain⟨_,_,_,e⟩:=x;exact⟨_,e⟩
 |frz ob u=>obtain⟨e,_⟩:=x;exact⟨_,e⟩
 |tbl ps=>exact⟨_,show h.get? a=some _ from x⟩
 |met f y=>exact⟨_,show h.get? a=some _ from x⟩
 |ext φ=>obtain⟨_,e,_⟩:=x;exact e
section
variable {P:Ld}{w:Lg}{K:K5}{mg:Lb}{base:Heap}{N:Le}{qual:Str}{scope:Scope}{f:Addr}{cd:Value}{A:Lf}{outer:List Env}{s:K8}{H:Hp}{E E1:XK}{CX:k8}
theorem Fly0.up{cp:Value->Prop}{X:Cx}{pins:K6}{σ:St}{H1 H':Hp}{s1 s':K8}{B h':Heap}{ea:Addr}{cls:Value}{od:Lh}(I:Inv X pins σ H1 s1)(hex:X.ex=[])(hst:X.stack=X.env::X.outer)(hfr:X.env.frame=some X.env.locals)(hP:X.prog=P)(hw:X.w=w)
  (x:Fly0 P w X.stack H1 s1 B H' s') (fl2:l_ cp B X.outer ea cls od .none h') (up:s'.heap.UpToSlots h') :
  Gw cp P w X.outer X.H₀ X.s₀ B H' {s' with heap:=h' } ea cls od:=by
 have nex:∀b,b∉X.ex:=λb=>by rw[hex];simp
 have nfr:∀b o,X.s₀.heap.get? b=some o->b∉X.fs->b∉mM X.stack:=λb o e hb hm=>by
  rw[hst]at hm;unfold mM at hm;rw[List.filterMap_cons,hfr]at hm;rcases Km.mp hm with z | z
  ·exact absurd (Ky e) (by rw[z];exact Nat.not_lt.mpr I.ok.above)
  ·exact hb z
 have sub:∀b,b∈X.fs->b∈mM X.stack:=λb hb=>by
  rw[hst];unfold mM;rw[List.filterMap_cons,hfr];exact Kn _ hb
 have kB:∀b o,X.s₀.heap.get? b=some o->b∉X.fs->∃o',B.get? b=some o':=λb o e hb=>by
  obtain⟨o1,e1⟩:=I.base.there b o e (nex b);exact x.old b o1 e1 (nfr b o e hb)
 have fr0:∀b∈X.fs,X.H₀ b=none:=I.ok.frf;have sl:∀b o,X.s₀.heap.get? b=some o->X.H₀ b=none->b∈X.fs->∃sl,h'.get? b=some {o with slots:=sl}:=λb o e hn hb=>by
  obtain⟨sl1,e1⟩:=I.base.slot b o e hn hb (nex b);have n1:=I.base.free b o e hn (nex b);obtain⟨sl2,e2⟩:=x.un.slot b _ e1 n1 (sub b hb) (by simp);obtain⟨_,o3,e3,nf⟩:=x.ff.mem (sub b hb);rw[e2]at e3;cases e3;obtain⟨sl3,e4⟩:=up b _ e2 nf;exact⟨sl3,e4⟩
 refine⟨⟨fl2.st,fl2.ff,⟨λb o e hn hb _=>?_,λb o e hn hb _=>sl b o e hn hb,λb o e hn _=>?_,λb o e _=>?_,λb xs q=>x.un.tups b xs (I.base.tups b xs q),λb o u q=>x.un.frzs b o u (I.base.frzs b o u q),λb ps q=>?_⟩,zY x.hok x.cov x.st fl2.st,x.cov,kB,x.os.trans I.os,x.bare⟩,fl2⟩
 ·have e1:=I.base.keep b o e hn hb (nex b)
  have n1:=I.base.free b o e hn (nex b);have e2:=x.un.keep b o e1 n1 (nfr b o e hb) (by simp);obtain⟨o',eB⟩:=kB b o e hb;have:=x.st b o' eB;rw[e2]at this;cases this;exact fl2.st b _ eB
 ·obtain⟨o1,e1⟩:=I.base.there b o e (nex b)
  exact x.un.free b o1 e1 (I.base.free b o e hn (nex b)) (by simp)
 ·by_cases hb:b∈X.fs
  ·obtain⟨z,ez⟩:=sl b o e (fr0 b hb) hb
   exact⟨_,ez⟩
  ·obtain⟨o',eB⟩:=kB b o e hb
   exact⟨_,fl2.st b _ eB⟩
 ·obtain⟨m1,e1⟩:=I.base.tbls b ps q
  obtain⟨m2,e2⟩:=x.un.tbls b _ e1;exact⟨m1++m2,by rw[e2,Array.append_assoc]⟩
theorem aV{cp:Value->Prop}(hE:∀c d H',E1 c d H'->E c d H'):cZ (GG cp P w) (gy (GG cp P w) P w K mg base N qual scope f cd A outer s H E) E1:=by
 intro pins σ H1 s1 e s' I x;obtain⟨ea,cls,od,B,H',rfl,fly,hn,q⟩:=x;refine Fe I.ok.frames rfl fly.fl λh' fl2 up=>?_;exact⟨ea,cls,od,B,H',rfl,Fly0.up I rfl rfl rfl rfl rfl fly.toFly0 fl2 up,hn,hE _ _ _ q⟩
noncomputable def Cf(X:Cx)(E:XK):Prop:=∀(pins:K6) (σ:St) (H:Hp) (s:K8) (h':Heap) (e:Addr) (cls:Value) (vs:K9),Inv X pins σ H s->Heap.MadeExcOf s.heap h' e cls vs->E cls none H->X.xe (.ref e) {s with heap:=h' }
theorem eD(hE:∀c d H',E1 c d H'->E c d H'):Cf (gy (bz P w) P w K mg base N qual scope f cd A outer s H E) E1:=by
 intro pins σ H1 s1 h1 e cls vs I x q;have hin:∀env∈(gy (bz P w) P w K mg base N qual scope f cd A outer s H E).stack,∀b,env.frame=some b->b∈mM (gy (bz P w) P w K mg base N qual scope f cd A outer s H E).stack:=λenv he b hb=>List.mem_filterMap.mpr ⟨env,he,hb⟩;obtain⟨t0,he0,ht0,htt⟩:=x.there;have nt:∀b,s1.heap.get? b=none->H1 b=none:=λb hb=>by
  cases z:H1 b with
  |none=>rfl
  |some o=>
   obtain⟨ob,hob⟩:=(I.hok b o z).there;rw[hb]at hob;cases hob
 have hff:=PySem.W.funFrames_hide I.stack hin;have fly0:Fly0 P w (gy (bz P w) P w K mg base N qual scope f cd A outer s H E).stack H1 s1 (PySem.W.hideAll s1.heap (mM (gy (bz P w) P w K mg base N qual scope f cd A outer s H E).stack)) H1 {s1 with heap:=h1}:=
  ⟨λb o e=>x.keeps b o (PySem.W.of_hideAll _ e),hff.of_keeps λb o e _=>⟨o,x.keeps b o e,rfl⟩,Un.kept x.keeps,I.hok.kept x.keeps,λb o z=>by
   obtain⟨ob,hob⟩:=(I.hok b o z).there;exact⟨ob,PySem.W.hideAll_get _ hob λhm=>by rw[I.stkFree b hm]at z;cases z⟩,λb o e hm=>⟨o,PySem.W.hideAll_get _ e hm⟩,rfl,I.bare⟩
 have newB:(PySem.W.hideAll s1.heap (mM (gy (bz P w) P w K mg base N qual scope f cd A outer s H E).stack)).get? e=none:=by
  cases z:(PySem.W.hideAll s1.heap (mM (gy (bz P w) P w K mg base N qual scope f cd A outer s H E).stack)).get? e with
  |none=>rfl
  |some o=>have:=PySem.W.of_hideAll _ z;rw[x.new]at this;cases this
 refine yS (cp:=λv=>v=.none) (s:={s1 with heap:=h1}) I.ok.frames fly0.ff rfl he0 fly0.st newB rfl rfl ⟨_,rfl,rfl⟩ λh' fl2 up=>?_;exact⟨e,cls,none,_,H1,rfl,Fly0.up I rfl rfl rfl rfl rfl fly0 fl2 up,nt e x.new,hE _ _ _ q⟩
end
structure uv(K:K5)(C:Addr)(bmB:K9)(newId:String):Prop where
 exc:PySem.W.excIn K C bmB newId=true
theorem uv.obj{K:K5}{C:Addr}{bmB:K9}{newId:String}{h:Heap}(c:uv K C bmB newId)(X:K.In h):∃bm N nm q bs hdct sn sub ab col dd k0 k1 k2 k3 k5 mN,
  h.get? C=some (excClassObj nm q C N bs bm hdct sn sub ab col dd k0 k1 k2 k3 k5 newId)/\h.Ns N mN/\mN "__init__"=none/\OwnTail h bmB bm/\∃dd' cd sl,K.lookup C=some ⟨.type "type",dd',.cls cd,sl⟩/\cd.mro=.ref C::bm:=by
 have q:=c.exc;unfold PySem.W.excIn at q;cases hl:K.lookup C with
 |none=>rw[hl]at q;cases q
 |some ob=>
  rw[hl]at q
  split at q
  ·rename_i dd cd sl e
   cases e
   split at q
   ·rename_i C' bm k0 k1 k2 k3 n k5 hm hs
    simp only[Bool.and_eq_true,beq_iff_eq,Bool.not_eq_true']at q;obtain⟨⟨⟨⟨⟨rfl,rfl⟩,hdel⟩,ht⟩,hok⟩,hni⟩:=q;have ho:=X _ _ hl;have hsl:sl=#[k0,k1,k2,k3,some (.builtin n),k5]:=Array.toList_inj.mp hs;subst hsl;obtain⟨nm,bs,mro,ns,qn,hd,sn,sub,ab,col,del⟩:=cd;dsimp only at hm hdel hok hni ho;subst hm hdel;exact⟨bm,ns,nm,qn,bs,hd,sn,sub,ab,col,dd,k0,k1,k2,k3,k5,_,ho,.of_isNs (PySem.W.isNs_of_in X hok),PySem.W.nsMap_none_of_in X hok hni,PySem.W.tail_of_in X ht,dd,_,_,rfl,rfl⟩
   ·cases q
  ·cases q
section
variable {X:Cx}{x:Str}{np cpos pos:Pos}{e₀:Expr}{cB:Li}{t:TA}{C:Addr}{B Bn newId nid initId inN:String}{bm bmN:K9}{E:XK}
noncomputable def tf(C:Addr)(E:XK)(t:TA):TS:=λ_ σ H=>t σ H λvs H1=>vs.length<=sizeLine/\E (.ref C) none H1
theorem C7(c:uv X.K C bm newId)(Fn:ExcBaseFacts Bn newId inN bmN)(hBn:bm.contains (.type Bn)=true)(FB:ExcBaseFacts B nid initId bm)(hc:X.calm=true)(hg:Gl X x)(hm:X.mg x=some (.ref C))(hx:Cf X E)(ha:PA X (e₀::cB) t)
  (hd:autoParam ((x==("__debug__":Str))=false) zz2._auto_1)
  (he:autoParam (starEach (e₀::cB) X.env=(false,eval e₀ X.env)::starEach cB X.env) zz0._auto_1) (hpl:autoParam ((backTo cpos (starEach cB X.env)).any (·.1)=false) zz0._auto_1) :
  PS X (.Raise (some (.Call (.Name x np) (e₀::cB) [] cpos)) none pos) (tf C E t):=by
 intro pins s σ H D I h;obtain⟨tl,N,nm,q,bs,hdct,sn,sub,ab,col,dd,k0,k1,k2,k3,k5,mN,hC,hN,hni,T,_⟩:=c.obj I.mod.kin;refine wpAny_Raise_call_subU (C:=C) (nm:=nm) (q:=q) (N:=N) (bs:=bs) (bm:=tl) (hdct:=hdct) (sn:=sn) (sub:=sub) (ab:=ab) (col:=col) (dd:=dd) (k0:=k0) (k1:=k1) (k2:=k2) (k3:=k3) (k5:=k5)
  Fn hBn FB (mN:=mN) (T.hasType FB.hasBase) (I.ok.hd hc) (by rw[he];show(false||(backTo cpos (starEach cB X.env)).any (·.1))=false;rw[hpl];rfl) hni (kl I hg hm ⟨rfl,?_⟩ hd)
 rw[he];have ha':=ha cpos pins s σ H _ I h;rw[he]at ha';exact Calls.evalArgs_plain (wpAny_mono ha' (λus s₂ ⟨vs,H1,I1,r1,z,q1⟩=>⟨rfl,by rw[<- r1.length];exact z,I1.bk _ _ hC,hN.keeps I1.bk,T.keeps I1.bk,λh' e hx'=>hx pins σ H1 s₂ h' e _ _ I1 hx' q1⟩) λ_ _ y=>y)
end
noncomputable abbrev TX:=St->Hp->VK->XK->Prop
section
variable {X:Cx}{CX:k8}{k:Nat}{ps:Le}{sp:Sp}{x:Str}{p pos:Pos}{e:Expr}{es:Li}{t:TA}
end
end L2
namespace PySem
open Sem (wp)
section
variable {M:Model}{A:Lf}{E:K4}
variable {nm q nm' q':Str}{C N D N':Addr}{bs bm bs' bm':K9}{hdct hdct':Bool}{sn sn':Le}{sub sub':K9}{ab ab':Bool}{col col':Option Bool}{dd dd':Lh}{k0 k1 k2 k3 k5 k0' k1' k2' k3' k5':Option Value}{newId newId':String}
end
end PySem
namespace L2
open PySem PySem.Spec PyProof.Rows
section
variable {X:Cx}{pins:K6}{σ:St}{H:Hp}{s:K8}
end
section
variable {X:Cx}{P:Ld}{w:Lg}{e tg:Expr}{tx:TX}{g:TG}{i:Nat}{n x:Str}{D:Addr}{bmD:K9}{nD:String}{b₀:Stmt}{suite:List Stmt}{apos pos hpos np:Pos}{ts:Addr->TS}
end
section
variable {X:Cx}{pins:K6}{σ:St}{H:Hp}{s:K8}
theorem Inv.moved{ch:La}{h':Heap}{tk:Nat}(I:Inv X pins σ H s)(hf:∀b∈ch,oO X pins H b)(k:∀b o,b∉ch->s.heap.get? b=some o->h'.get? b=some o):Inv X pins σ H {s with heap:=h',toks:=tk}:=by
 have nH:∀b o,H b=some o->b∉ch:=λb o e z=>by rw[(hf b z).1]at e;cases e
 refine I.call' (s':={s with heap:=h',toks:=tk}) (ch:=ch) rfl ⟨λb o e _ _ hc=>k b o hc e,λb o e _ _ hc=>⟨o.slots,k b o hc e⟩,λb o e n hc=>n,λb o e hc=>⟨o,k b o hc e⟩,λb xs q=>q,λb o y q=>q,λb qs q=>⟨#[],by rw[q];simp⟩⟩
  (λb o e=>(I.hok b o e).stay (λc u hc q=>k c u (by
   rcases hc with rfl | hc
   ·exact nH _ _ e
   ·exact nH _ _ hc) q) (λ_ q=>q) λ_ _ q=>q) I.bare λb hb=>?_
 obtain⟨f0,f1,f2,f3,f4,f5⟩:=hf b hb;exact⟨f3,f1,f4,f5⟩
theorem Inv.movedT{ch:La}{h':Heap}{tk:Nat}{T:Addr}{ob:HO}(I:Inv X pins σ H s)(hf:∀b∈ch,oO X pins H b)(k:∀b o,b∉ch->s.heap.get? b=some o->h'.get? b=some o)(hT:s.heap.objs.size<=T)(new:bS X.prog X.w (ax H T ob) h' T ob) :
  Inv X pins σ (ax H T ob) {s with heap:=h',toks:=tk}:=by
 have nH:∀b o,H b=some o->b∉ch:=λb o e z=>by rw[(hf b z).1]at e;cases e
 have hn:H T=none:=I.hok.fresh hT;have nT:∀b o,s.heap.get? b=some o->b≠T:=λb o e z=>by rw[z]at e;exact absurd (Ky e) (Nat.not_lt.mpr hT)
 refine I.call' (s':={s with heap:=h',toks:=tk}) (ch:=ch) rfl ⟨λb o e _ _ hc=>k b o hc e,λb o e _ _ hc=>⟨o.slots,k b o hc e⟩,λb o e n hc=>by rw[ao (nT b o e)];exact n,λb o e hc=>⟨o,k b o hc e⟩,λb xs q=>by rw[ao (aC q hn)];exact q,λb o y q=>by rw[ao (aC q hn)];exact q,λb qs q=>⟨#[],by rw[ao (aC q hn),q];simp⟩⟩
  (λb o e=>?_) I.bare λb hb=>?_
 ·by_cases hb:b=T
  ·subst hb
   rw[ac]at e;cases e;exact new
  ·rw[ao hb]at e
   exact(I.hok b o e).stay (λc u hc q=>k c u (by
    rcases hc with rfl | hc
    ·exact nH _ _ e
    ·exact nH _ _ hc) q) (λc q=>by rw[ao (aC q hn)];exact q) λc xs q=>by rw[ao (aC q hn)];exact q
 ·obtain⟨f0,f1,f2,f3,f4,f5⟩:=hf b hb
  exact⟨f3,f1,f4,f5⟩
end
noncomputable def GF(K:K5)(a b:Addr):It:=
 ⟨λi H=>∃xs ys x y,aS K H a xs/\aS K H b ys/\xs[i]?=some x/\ys[i]?=some y,λi H v H'=>∃T x y,v=.ref T/\H T=none/\H'=ax H T (.tup [x,y])/\(∀xs,aS K H a xs->xs[i]?=some x)/\∀ys,aS K H b ys->ys[i]?=some y,
  λi H=>∃xs ys,aS K H a xs/\aS K H b ys/\(xs.length<=i\/ys.length<=i)⟩
theorem Ds{P:Ld}{w:Lg}{K:K5}{elts:Li}{x1:Nat}{tp:Pos}{z TI TO i1 i2 l1 l2:Addr}(D:ZipApart z TI TO i1 i2 l1 l2) :
  pk P w K (.Tuple elts x1 tp) (GF K l1 l2) [z,TI,TO,i1,i2] z (λi h=>IsZip h z TI TO .none/\IsPair h TI (.ref i1) (.ref i2)/\(∃a b,IsPair h TO a b)/\h.IsListIter i1 l1 i/\h.IsListIter i2 l2 i) where
 mem:=by simp
 obj:=λi h st b hb=>by
  obtain⟨hz,hTI,⟨a,c,hTO⟩,⟨o1,e1,c1,d1⟩,⟨o2,e2,c2,d2⟩⟩:=st;simp only[Km,List.not_mem_nil,or_false]at hb;rcases hb with rfl | rfl | rfl | rfl | rfl
  ·exact⟨_,hz,λv q=>by cases q⟩
  ·exact⟨_,hTI,λv q=>by cases q⟩
  ·exact⟨_,hTO,λv q=>by cases q⟩
  ·exact⟨_,e1,λv q=>by rw[d1]at q;cases q⟩
  ·exact⟨_,e2,λv q=>by rw[d2]at q;cases q⟩
 keep:=λi h h' st hk=>by
  obtain⟨hz,hTI,⟨a,b,hTO⟩,h1,h2⟩:=st;exact⟨hk z (by simp) _ hz,hk TI (by simp) _ hTI,⟨a,b,hk TO (by simp) _ hTO⟩,h1.at λo e=>hk i1 (by simp) o e,h2.at λo e=>hk i2 (by simp) o e⟩
 item:=by
  intro X hP hw hK hc i pins s σ H E I hf st hg;subst hP hw hK;obtain⟨xs,ys,x,y,hq1,hq2,hx,hy⟩:=hg;obtain⟨its1,rv1,p1,hz1⟩:=I.list hq1;obtain⟨its2,rv2,p2,hz2⟩:=I.list hq2;obtain⟨u1,hu1,ru1⟩:=rv1.get hx;obtain⟨u2,hu2,ru2⟩:=rv2.get hy;obtain⟨hz,hTI,⟨a,b,hTO⟩,h1,h2⟩:=st;refine wpAny_pyNext_zip_item D hz hTI hTO h1 h2 p1.isList p2.isList (x:=u1) (y:=u2) (by simpa using hu1) (by simpa using hu2) λh' a1 a2 a3 a4 a5 a6 hk=>?_;refine⟨_,rfl,wpAny_letOwnedTupleGo_zip a1 λh2' hz' hs'=>?_⟩;have hfree:H s.heap.objs.size=none:=I.hok.fresh (Kv _);have lt:∀{c o},s.heap.get? c=some o->s.heap.objs.size≠c:=λe=>Nat.ne_of_gt (Ky e);have kk:∀c o,c∉[z,TI,TO,i1,i2]->s.heap.get? c=some o->h2'.get? c=some o:=λc o hc e=>
   hs'.extBut _ _ (λq=>hc (by simp[q])) (hk c o (λq=>hc (by simp[q])) (λq=>hc (by simp[q])) (λq=>hc (by simp[q])) (λq=>hc (by simp[q])) e)
  have hT:h2'.get? s.heap.objs.size=some {cls:=.type "tuple",data:=.seq #[u1,u2]}:=hs'.extBut _ _ (lt hz) a5;refine⟨.ref s.heap.objs.size,ax H s.heap.objs.size (.tup [x,y]),I.movedT (tk:=s.toks) hf kk (Kv _) ⟨show 2<=sizeLine from by decide +kernel,[u1,u2],.cons ru1 (.cons ru2 .nil),_,hT,rfl,_,rfl⟩,rfl,
   ⟨_,x,y,rfl,hfree,rfl,λzs hzs=>by rw[I.list_inj hzs hq1];exact hx,λzs hzs=>by rw[I.list_inj hzs hq2];exact hy⟩,
   ⟨hz',hs'.extBut _ _ D.TIz (hk _ _ D.TIz D.TITO D.TIi1 D.TIi2 hTI),⟨_,_,hs'.extBut _ _ D.TOz a2⟩,a3.extBut hs'.extBut D.i1z,a4.extBut hs'.extBut D.i2z⟩,λb hb=>?_⟩
  have hlt:b≠s.heap.objs.size:=by
   obtain⟨o1,e1,_⟩:=h1;obtain⟨o2,e2,_⟩:=h2;simp only[Km,List.not_mem_nil,or_false]at hb;rcases hb with rfl | rfl | rfl | rfl | rfl
   ·exact(lt hz).symm
   ·exact(lt hTI).symm
   ·exact(lt hTO).symm
   ·exact(lt e1).symm
   ·exact(lt e2).symm
  rw[ao hlt];exact(hf b hb).1
 done:=by
  intro X hP hw hK hc i pins s σ H E I hf st hg;subst hP hw hK;obtain⟨xs,ys,hq1,hq2,hx⟩:=hg;obtain⟨its1,rv1,p1,hz1⟩:=I.list hq1;obtain⟨its2,rv2,p2,hz2⟩:=I.list hq2;obtain⟨hz,hTI,⟨a,b,hTO⟩,h1,h2⟩:=st;have l1':=rv1.length;have l2':=rv2.length;refine wpAny_pyNext_zip_end (I.ok.hd hc) D hz hTI hTO h1 h2 p1.isList p2.isList ?_ λh' hk=>⟨rfl,I.moved (tk:=s.toks) hf λc o hc e=>hk c o (λq=>hc (by simp[q])) (λq=>hc (by simp[q])) (λq=>hc (by simp[q])) (λq=>hc (by simp[q])) e⟩;rcases hx with hx | hx
  ·exact .inl (by simp;omega)
  ·exact .inr (by simp;omega)
 self:=λ_ _ _ _ _ st h=>wpAny_pyIter_zip st.1 h
theorem sv(n l1 l2:Nat)(h1:l1<n)(h2:l2<n):ZipApart (n+4) (n+2) (n+3) n (n+1) l1 l2:=by
 constructor<;>exact λe=>absurd (show(_:Nat)=_ from e) ⋯
section
variable {X:Cx}{elts:Li}{x1:Nat}{tp:Pos}
noncomputable def E8(K:K5)(ta:TA):TI:=λσ H R=>ta σ H λvs H1=>∃a b xs ys,vs=[.ref a,.ref b]/\aS K H1 a xs/\aS K H1 b ys/\R (GF K a b) H1
theorem Cb{a b:Expr}{ta:TA}{p pos:Pos}(hg:Gl X "zip")(hm:X.mg "zip"=none)(ha:PA X [a,b] ta)(hs:autoParam (starEach [a,b] X.env=[(false,eval a X.env),(false,eval b X.env)]) zz0._auto_1)(hs2:autoParam (starEach [b] X.env=[(false,eval b X.env)]) zz0._auto_1):PI X (.Tuple elts x1 tp) (.Call (.Name "zip" p) [a,b] [] pos) (E8 X.K ta):=by
 intro pins s σ H R I h;refine Call_ (e_ I hg hm boot_zip (PyProof.Rows.callWith_type1 (bZ (ha pos pins s σ H _ I h) λus s1 ⟨vs,H1,I1,r1,q1⟩=>?_) (by rw[hs,hs2]) (by rw[hs2];rfl)));obtain⟨l1,l2,xs,ys,rfl,hq1,hq2,q⟩:=q1;obtain⟨u,v,rfl,ru,rv⟩:=r1.two;cases ru;cases rv;obtain⟨its1,rv1,p1,_⟩:=I1.list hq1;obtain⟨its2,rv2,p2,_⟩:=I1.list hq2;refine call_zip_2 p1.isList p2.isList λh' z1 z2 z3 z4 z5 z6 hk=>?_;have lt1:l1<s1.heap.objs.size:=by obtain⟨_,e,_⟩:=p1.isList;exact Ky e
 have lt2:l2<s1.heap.objs.size:=by obtain⟨_,e,_⟩:=p2.isList;exact Ky e
 have I2:Inv X pins σ H1 {s1 with heap:=h' }:=I1.kept (t':=s1.toks) hk;refine wpAny_pyIter_zip z1 ?_;refine⟨s1.heap.objs.size+4,[s1.heap.objs.size+4,s1.heap.objs.size+2,s1.heap.objs.size+3,s1.heap.objs.size,s1.heap.objs.size+1],_,_,H1,rfl,I2,Ds (l1:=l1) (l2:=l2) ?_,⟨z1,z2,⟨_,_,z3⟩,z4,z5⟩,λb hb=>?_,q⟩
 ·exact sv _ _ _ lt1 lt2
 ·have hb':s1.heap.objs.size<=b:=by
   simp only[Km,List.not_mem_nil,or_false]at hb;rcases hb with e | e | e | e | e<;>(rw[e];first | exact Kv _ | exact Nat.le_add_right _ _)
  exact I1.fpOk hb' (I1.hok.fresh hb')
end
end L2
namespace PySem.W
open PySem PySem.Spec PySem.Calls PyProof.Rows
section
variable {prog:Ld}{w:Lg}{A:Lf}{E:K4}{s:K8}{K:Frag}{x D:Addr}{ox:Obj}{odo:Option Obj}{name:Str}
structure XTy(K:Frag)(D:Addr):Prop where
 ga:findIn K (.ref D) "__getattribute__"=some (some (.builtin "BaseException.__getattribute__"))
 gh:findIn K (.ref D) "__getattr__"=some none
 mb:mroIn K D (.type "BaseException")=some true
 mo:mroIn K D (.type "object")=some true
 ha:findIn K (.ref D) "__class__"=some (some (.builtin "object.__class__"))
 hn:specialIn K (.builtin "object.__class__") "__get__"=some (some (.builtin "getset_descriptor.__get__"))
 tk:takesIn K (.builtin "object.__class__")=some true
 cl:∃dd cd sl,K.lookup D=some ⟨.type "type",dd,.cls cd,sl⟩
end
end PySem.W
namespace L2
open PySem PySem.Spec PyProof.Rows
section
variable {X:Cx}
end
structure XR(K:K5)(C:Addr):Prop where
 ex:∃(bm bmN:K9) (newId Bn inN B nid initId:String),uv K C bm newId/\ExcBaseFacts Bn newId inN bmN/\bm.contains (.type Bn)=true/\ExcBaseFacts B nid initId bm
theorem dq{X:Cx}{x:Str}{np cpos pos:Pos}{e₀:Expr}{cB:Li}{t:TA}{C:Addr}{E:XK}(c:XR X.K C)(hc:X.calm=true)(hg:Gl X x)(hm:X.mg x=some (.ref C))(hx:Cf X E)(ha:PA X (e₀::cB) t)
  (hd:autoParam ((x==("__debug__":Str))=false) zz2._auto_1)
  (he:autoParam (starEach (e₀::cB) X.env=(false,eval e₀ X.env)::starEach cB X.env) zz0._auto_1) (hpl:autoParam ((backTo cpos (starEach cB X.env)).any (·.1)=false) zz0._auto_1) :
  PS X (.Raise (some (.Call (.Name x np) (e₀::cB) [] cpos)) none pos) (tf C E t):=by
 obtain⟨bm,bmN,newId,Bn,inN,B,nid,initId,c1,c2,c3,c4⟩:=c.ex;exact C7 c1 c2 c3 c4 hc hg hm hx ha hd he hpl
section
variable {P:Ld}{w:Lg}{K:K5}{mg:Lb}{base:Heap}
theorem cy.okX{x qual:Str}{st:Stmt}{f:Addr}{fd:Lc}{N ps:Le}{k:Nat}{sp:Sp}(F:cy K x qual st f fd)(S:av N ps (ai st))(len:∀vs H Q E,sp vs H Q E->vs.length=ps.length)
  (hbody:∀(cdv:Value) (A:Lf) (outer:List Env) (s:K8) (H:Hp) (vs:List V) (Q:VK) (E:XK),dr k (A.deeper (envOfC qual (ai st) s.heap.objs.size f cdv))->sp vs H Q E ->
   ∃t,wx (gy (bz P w) P w K mg base N qual (ai st) f cdv A outer s H E) (aP st) t/\t {nx:=λ_ H'=>Q .non H',rt:=Q} (start N vs) H):aQ P w K mg base (bz P w) (k+1) f fd ps sp:=by
 obtain⟨oc,od,kV,doc,pm,an,cdv,ct,osl,rfl,lk,hcd⟩:=F.ex;exact ER lk hcd S len λA outer s H vs Q E hr hsp=>hbody cdv A outer s H vs Q E hr hsp
theorem aQ.lift{CX:k8}{k:Nat}{f:Addr}{fd:Lc}{ps:Le}{sp:Sp}(F:aQ P w K mg base bG k f fd ps sp):aQ P w K mg base CX k f fd ps sp:=
 ⟨F.len,λA outer s H args us vs Q E hr he hb hv hs=>codeAny_mono (F.run A outer s H args us vs Q E hr he hb hv hs) λr s' hq=>by
  cases r with
  |error e=>exact False.elim hq
  |ok fl=>cases fl<;>exact hq⟩
theorem eR.lift{CX:k8}{k:Nat}{x:Str}{ps:Le}{sp:Sp}(c:eR P w K mg base bG k x ps sp):eR P w K mg base CX k x ps sp:=by
 obtain⟨f,fd,F,r⟩:=c.ex;exact⟨f,fd,F.lift,r⟩
end
theorem sN{X:Cx}{K:K5}{es:Li}{k:Nat}{t:ES}{n:Nat}{pos:Pos}(hK:X.K=K)(hc:X.calm=true)(h:Gu X es t)
  (hn:autoParam ((assignEach es X.env).length=n) zz0._auto_1) (hst:autoParam ((assignEach es X.env).findIdx? (·.1)=none) zz0._auto_1):PG X (.Tuple es k pos) (BZ K n t):=hK▸fG hc h hn hst
section
variable {K:K5}{g:TG}{ti:TT}{te:TE}{σ:St}{H:Hp}{Q:List V->Hp->Prop}
theorem vT{a b:Addr}{xs ys:List V}{n:Nat}(hn:n=min xs.length ys.length)(Pv:Nat->List V->St->Hp->Prop)(h0:Pv 0 [] σ H)(hz:∀i acc σ H,Pv i acc σ H->acc.length<sizeLine)(hi:∀i acc σ H,Pv i acc σ H->i<=n)
  (hl:∀i acc σ H,Pv i acc σ H->aS K H a xs/\aS K H b ys)
  (hs:∀i x y acc σ H T,xs[i]?=some x->ys[i]?=some y->Pv i acc σ H->H T=none->g (.ref T) σ (ax H T (.tup [x,y])) λσ2 H3=>ti σ2 H3 λb H4=>if b=true then te σ2 H4 λv H5=>Pv (i+1) (acc++[v]) σ2 H5 else Pv (i+1) acc σ2 H4)
  (he:∀acc σ H,Pv n acc σ H->Q acc H):i9 (GF K a b) g ti te σ H Q:=by
 refine j' (J:=GF K a b) (g:=g) (ti:=ti) (te:=te) (Q:=Q) (n:=n) Pv h0 hz hi (λacc σ H w=>⟨xs,ys,(hl _ _ _ _ w).1,(hl _ _ _ _ w).2,⋯⟩)
  (λi acc σ H hlt w=>⟨xs,ys,xs[i]'⋯,ys[i]'⋯,(hl _ _ _ _ w).1,(hl _ _ _ _ w).2,J7 ⋯,J7 ⋯⟩) (λi x acc σ H H2 hlt w y=>?_) he
 obtain⟨T,x,y,rfl,hT,rfl,hx,hy⟩:=y;exact hs i x y acc σ H T (hx xs (hl _ _ _ _ w).1) (hy ys (hl _ _ _ _ w).2) w hT
end
end L2
namespace QL
open PySem
end QL
namespace L2
open PySem PySem.Spec PyProof.Rows
noncomputable def GZ(K:K5)(a:Addr):It:=
 ⟨λi H=>∃xs x,aS K H a xs/\xs[i]?=some x,λi H v H'=>∃T x,v=.ref T/\H T=none/\H'=ax H T (.tup [.int (i:Int),x])/\∀xs,aS K H a xs->xs[i]?=some x,λi H=>∃xs,aS K H a xs/\xs.length<=i⟩
theorem AU{P:Ld}{w:Lg}{K:K5}{elts:Li}{x1:Nat}{tp:Pos}{e it l:Addr}(hei:e≠it) :
  pk P w K (.Tuple elts x1 tp) (GZ K l) [e,it] e (λi h=>(∃old,IsEnum h e it i old)/\h.IsListIter it l i) where
 mem:=by simp
 obj:=λi h st b hb=>by
  obtain⟨⟨old,he⟩,⟨o1,e1,c1,d1⟩⟩:=st;simp only[Km,List.not_mem_nil,or_false]at hb;rcases hb with rfl | rfl
  ·exact⟨_,he,λv q=>by cases q⟩
  ·exact⟨_,e1,λv q=>by rw[d1]at q;cases q⟩
 keep:=λi h h' st hk=>by
  obtain⟨⟨old,he⟩,h1⟩:=st;exact⟨⟨old,hk e (by simp) _ he⟩,h1.at λo e'=>hk it (by simp) o e'⟩
 item:=by
  intro X hP hw hK hc i pins s σ H E I hf st hg;subst hP hw hK;obtain⟨xs,x,hq,hx⟩:=hg;obtain⟨its,rv,p,hz⟩:=I.list hq;obtain⟨u,hu,ru⟩:=rv.get hx;obtain⟨⟨old,he⟩,h1⟩:=st;obtain⟨o1,e1,_⟩:=id h1;refine wpAny_pyNext_enum_item he h1 p.isList (x:=u) (by simpa using hu) hei λh' a1 a2 a3 a4 hk=>?_;refine⟨_,rfl,wpAny_letOwnedTupleGo_enum a1 λh2 he2 hs2=>?_⟩;have hfree:H s.heap.objs.size=none:=I.hok.fresh (Kv _);have lt:∀{c o},s.heap.get? c=some o->s.heap.objs.size≠c:=λe=>Nat.ne_of_gt (Ky e);have kk:∀c o,c∉[e,it]->s.heap.get? c=some o->h2.get? c=some o:=λc o hc q=>
   hs2.extBut _ _ (λz=>hc (by simp[z])) (hk c o (λz=>hc (by simp[z])) (λz=>hc (by simp[z])) q)
  have hT:h2.get? s.heap.objs.size=some {cls:=.type "tuple",data:=.seq #[.int i s.toks,u]}:=hs2.extBut _ _ (lt he) a3;refine⟨.ref s.heap.objs.size,ax H s.heap.objs.size (.tup [.int i,x]),I.movedT (tk:=s.toks+1) hf kk (Kv _) ⟨show 2<=sizeLine from by decide +kernel,[.int i s.toks,u],.cons ⟨_,rfl⟩ (.cons ru .nil),_,hT,rfl,_,rfl⟩,rfl,
   ⟨_,x,rfl,hfree,rfl,λzs hzs=>by rw[I.list_inj hzs hq];exact hx⟩,⟨⟨u,by simpa using he2⟩,a2.extBut hs2.extBut (Ne.symm hei)⟩,λb hb=>?_⟩
  have hlt:b≠s.heap.objs.size:=by
   simp only[Km,List.not_mem_nil,or_false]at hb;rcases hb with rfl | rfl
   ·exact(lt he).symm
   ·exact(lt e1).symm
  rw[ao hlt];exact(hf b hb).1
 done:=by
  intro X hP hw hK hc i pins s σ H E I hf st hg;subst hP hw hK;obtain⟨xs,hq,hx⟩:=hg;obtain⟨its,rv,p,hz⟩:=I.list hq;obtain⟨⟨old,he⟩,h1⟩:=st;have l1':=rv.length;refine wpAny_pyNext_enum_end (I.ok.hd hc) he h1 p.isList (by simp;omega) λh' hk=>⟨rfl,I.moved (tk:=s.toks) hf λc o hc e=>hk c o (λq=>hc (by simp[q])) e⟩
 self:=λ_ _ _ _ _ st h=>let ⟨⟨_,he⟩,_⟩:=st;wpAny_pyIter_enum he h
section
variable {X:Cx}{elts:Li}{x1:Nat}{tp:Pos}
noncomputable def DC(K:K5)(ta:TA):TI:=λσ H R=>ta σ H λvs H1=>∃a xs,vs=[.ref a]/\aS K H1 a xs/\R (GZ K a) H1
theorem oR{a:Expr}{ta:TA}{p pos:Pos}(hg:Gl X "enumerate")(hm:X.mg "enumerate"=none)(ha:PA X [a] ta)(hs:autoParam (starEach [a] X.env=[(false,eval a X.env)]) zz0._auto_1):PI X (.Tuple elts x1 tp) (.Call (.Name "enumerate" p) [a] [] pos) (DC X.K ta):=by
 intro pins s σ H R I h;refine Call_ (e_ I hg hm boot_enumerate (PyProof.Rows.callWith_type1 (bZ (ha pos pins s σ H _ I h) λus s1 ⟨vs,H1,I1,r1,q1⟩=>?_) (by rw[hs];rfl) (by rfl)));obtain⟨l,xs,rfl,hq,q⟩:=q1;obtain⟨u,rfl,ru⟩:=r1.one;cases ru;obtain⟨its,rv,p1,_⟩:=I1.list hq;refine call_enumerate_list p1.isList λh' z1 z2 z3 hk=>?_;have I2:Inv X pins σ H1 {s1 with heap:=h' }:=I1.kept (t':=s1.toks) hk;refine wpAny_pyIter_enum z1 ?_;refine⟨s1.heap.objs.size+1,[s1.heap.objs.size+1,s1.heap.objs.size],_,_,H1,rfl,I2,AU (l:=l) (Nat.ne_of_gt (KG _)),⟨⟨_,z1⟩,z2⟩,λb hb=>?_,q⟩;have hb':s1.heap.objs.size<=b:=by
  simp only[Km,List.not_mem_nil,or_false]at hb;rcases hb with e | e<;>(rw[e];first | exact Kv _ | exact Nat.le_add_right _ _)
 exact I1.fpOk hb' (I1.hok.fresh hb')
end
section
variable {K:K5}{g:TG}{tb:TS}{D:iK}{σ:St}{H:Hp}
theorem kc{a:Addr}{xs:List V}(Pv:Nat->St->Hp->Prop)(h0:Pv 0 σ H)(hl:∀i σ H,i<=xs.length->Pv i σ H->aS K H a xs)
  (hs:∀(i:Nat) x σ H T,xs[i]?=some x->Pv i σ H->H T=none->g (.ref T) σ (ax H T (.tup [.int (i:Int),x])) λσ2 H2=>tb {D with nx:=Pv (i+1),ct:=Pv (i+1),bk:=D.nx} σ2 H2) (hd:∀σ H,Pv xs.length σ H->D.nx σ H):uS (GZ K a) g tb D σ H:=by
 refine⟨λi m σ H=>m=xs.length-i/\i<=xs.length/\Pv i σ H,⟨xs.length,by simp,Kw _,h0⟩,?_⟩;rintro i m σ H ⟨rfl,hi,p⟩;have q:=hl i σ H hi p
 by_cases hlt:i<xs.length
 ·refine .inr ⟨⟨xs,xs[i],q,by simp[hlt]⟩,Pv (i+1),λσ' H' p'=>⟨xs.length-(i+1),⋯,rfl,hlt,p'⟩,λx H' y=>?_⟩
  obtain⟨T,x,rfl,hT,rfl,y⟩:=y;exact hs i x σ _ T (y xs q) p hT
 ·have e:i=xs.length:=by omega
  subst e;exact .inl ⟨⟨xs,q,Kv _⟩,hd σ H p⟩
end
end L2
namespace PySem
open Sem (wp)
section
variable {M:Model}{A:Lf}{E:K4}{env:Env}
variable {nm q:Str}{C N:Addr}{bs bm:K9}{hdct:Bool}{sn:Le}{sub:K9}{ab:Bool}{col:Option Bool}{dd:Lh}{k0 k1 k2 k3 k5:Option Value}{newId:String}
theorem rf{s:K8}{x:Sem Value}{Q:Flow->Shared->Prop}(hbase:bm.contains (.type "BaseException")=true)(hh:A.handled=none)
  (h:wpAny M A x (λv s₁=>∃e oe vs,v=.ref e/\s₁.heap.get? C=some (excClassObj nm q C N bs bm hdct sn sub ab col dd k0 k1 k2 k3 k5 newId)/\s₁.heap.get? e=some oe/\oe.cls=.ref C/\oe.data=.fields vs/\vs[1]?=some .none/\E (.ref e) s₁) E s) :
  wpAny M A (raiseStmt env (some x) none) Q E s:=by
 have hcB:(Value.ref C::bm).contains (.type "BaseException")=true:=by rw[List.contains_cons,hbase,Bool.or_true]
 unfold raiseStmt;refine wpAny_bind (wpAny_mono h (λv s₁ h₁=>?_) λ_ _ x=>x);obtain⟨e,⟨oc,od,dt,sl⟩,vs,rfl,hC,he,hc,hd,hv,hE⟩:=h₁;dsimp only at hc hd;subst hc hd;obtain⟨hp,g,d,tk,os⟩:=s₁
 repeat (first | with_reducible refine wpAny_loadPart_at he ?_ | with_reducible refine wpAny_loadPart_at hC ?_ | (with_reducible refine wpAny_isSubtype_exc hC ?_;rw[hcB]) | wp_step)
 rw[hv];refine wpAny_pure ?_;rw[if_neg nofun];exact wpAny_pure (wpAny_raiseNew_none hh hE)
end
section
variable {prog:Ld}{w:Lg}{A:Lf}{E:K4}{h:Heap}{g:Array GenState}{d:Drawn}{t:Nat}{os:OsState}
variable {nm q:Str}{C N:Addr}{bs bm bmB:K9}{hdct:Bool}{sn:Le}{sub:K9}{ab:Bool}{col:Option Bool}{dd:Lh}{k0 k1 k2 k3 k5:Option Value}{B Bn newId nid initId inN:String}{bmN:K9}{K:K5}
theorem kQ(Fn:ExcBaseFacts Bn newId inN bmN)(hBn:bmB.contains (.type Bn)=true)(F:ExcBaseFacts B nid initId bmB)(T:OwnTail h bmB bm)(X:K.In h){cB:K9}{fI:Addr}{Q:Fin->Shared->Prop}
  (hC:h.get? C=some (excClassObj nm q C N bs bm hdct sn sub ab col dd k0 k1 k2 k3 k5 newId)) (hi:PySem.W.findIn K (.ref C) "__init__"=some (some (.ref fI))) (hf:PySem.W.typeIn K (.ref fI)=some (.type "function"))
  (hq:∀h' e,Heap.MadeExcOf h h' e (.ref C) cB ->
   wpAny (model prog w) A (call (.ref fI) (.ref e::cB)) (λr s'=>r=.none/\Q (.done (.ret (.ref e))) s') E ⟨h',g,d,t,os⟩) (hrest:cB.length<=sizeLine) :
  wpAny (model prog w) A (Builtin.«type.__call__» ⟨.ref C::cB,[]⟩) Q E ⟨h,g,d,t,os⟩:=by
 repeat (first | with_reducible refine wpAny_loadPart_at hC ?_ | with_reducible refine wpAny_madeBy_exc hC ?_ | wp_step)
 refine codeAny_call_builtin_code (Code.quiet_builtin _ Fn.quiet) (wpAny_check_new_subU Fn hBn T hC ?_);refine codeAny_exc_new_subU Fn hBn F T hC ?_ hrest;show wpAny _ _ _ _ _ _;have hC₁:=J9 {cls:=.ref C,data:=.fields #[.ref h.objs.size,.none,.none,.none,.bool false,.none]}
  (J9 {cls:=.type "tuple",data:=.seq cB.toArray} hC)
 have hget:((h.push {cls:=.type "tuple",data:=.seq cB.toArray}).push
   {cls:=.ref C,data:=.fields #[.ref h.objs.size,.none,.none,.none,.bool false,.none]}).get? (h.objs.size+1)=some
   {cls:=.ref C,data:=.fields #[.ref h.objs.size,.none,.none,.none,.bool false,.none]}:=by heap_get
 have hcC:(Value.ref C::bm).contains (.ref C)=true:=by simp
 have X₁:K.In ((h.push {cls:=.type "tuple",data:=.seq cB.toArray}).push {cls:=.ref C,data:=.fields #[.ref h.objs.size,.none,.none,.none,.bool false,.none]}):=
  X.keeps λb o e=>J9 _ (J9 _ e)
 unfold isInstance
 repeat (first | with_reducible refine wpAny_loadPart_at hget ?_ | (with_reducible refine wpAny_isSubtype_exc hC₁ ?_;rw[hcC]) | wp_step)
 show wpAny _ _ (typeLookup (.ref C) _) _ _ _;refine(PySem.W.looks_findIn X₁ hi).at ?_;refine wpAny_holding (wpAny_bind ((PySem.W.bind_fn X₁ _ hf).at ?_));refine wpAny_bind (wpAny_mono (hq _ (h.objs.size+1) ⟨λb o hb=>J9 _ (J9 _ hb),Heap.get?_none_of_le (Nat.le_succ _),h.objs.size,hget,Heap.get?_none_of_le (Kv _),?_⟩) (λr s' hr=>?_) λ_ _ x=>x)
 ·exact J9 _ (Heap.get?_push_at rfl rfl)
 ·obtain⟨rfl,hQ⟩:=hr
  wp_walk
  exact hQ
theorem qQ(Fn:ExcBaseFacts Bn newId inN bmN)(hBn:bmB.contains (.type Bn)=true)(F:ExcBaseFacts B nid initId bmB)(T:OwnTail h bmB bm)(X:K.In h){cB:K9}{fI:Addr}{Q:K4}
  (hC:h.get? C=some (excClassObj nm q C N bs bm hdct sn sub ab col dd k0 k1 k2 k3 k5 newId)) (hi:PySem.W.findIn K (.ref C) "__init__"=some (some (.ref fI))) (hf:PySem.W.typeIn K (.ref fI)=some (.type "function"))
  (hq:∀h' e,Heap.MadeExcOf h h' e (.ref C) cB ->
   wpAny (model prog w) (A.under (.builtin "type.__call__" ⟨.ref C::cB,[]⟩)) (call (.ref fI) (.ref e::cB)) (λr s'=>r=.none/\Q (.ref e) s') E ⟨h',g,d,t,os⟩) (hrest:cB.length<=sizeLine) :
  wpAny (model prog w) A (call (.ref C) cB) Q E ⟨h,g,d,t,os⟩:=by
 have f1:=tc_lookup;have f2:=tc_bind (.ref C);have hT:(⟨h,g,d,t,os⟩:Shared).TypeIs (.ref C) "type":=⟨_,hC,rfl⟩;refine wpAny_call (codeAny_of_tree ?_);show wpAny _ _ (callAny (.ref C) _) _ _ _
 repeat (any_goals (first | assumption | with_reducible refine wpAny_loadPart_at hC ?_ | wp_step))
 refine⟨rfl,?_⟩;refine codeAny_call_builtin_at (Code.quiet_builtin _ (by decide +kernel)) entry_typeCall (wpAny_check_type_call_sub hC (kQ (hrest:=hrest) Fn hBn F T X hC hi hf λh' e hm=>?_));exact hq h' e hm
end
section
variable {prog:Ld}{w:Lg}{A:Lf}{E:K4}{s:K8}{env:Env}
variable {nm q:Str}{C N:Addr}{bs bm bmB:K9}{hdct:Bool}{sn:Le}{sub:K9}{ab:Bool}{col:Option Bool}{dd:Lh}{k0 k1 k2 k3 k5:Option Value}{B Bn newId nid initId inN:String}{bmN:K9}{K:K5}
theorem m8(Fn:ExcBaseFacts Bn newId inN bmN)(hBn:bmB.contains (.type Bn)=true)(F:ExcBaseFacts B nid initId bmB){x:Str}{np cpos pos:Pos}{args:Li}{fI:Addr}{Q:Flow->Shared->Prop}
  (hbase:bm.contains (.type "BaseException")=true) (hh:A.handled=none) (hplain:(backTo cpos (starEach args env)).any (·.1)=false) (hi:PySem.W.findIn K (.ref C) "__init__"=some (some (.ref fI))) (hf:PySem.W.typeIn K (.ref fI)=some (.type "function"))
  (h:wpAny (model prog w) A (eval (.Name x np) env) (λf s₁=>f=.ref C/\wpAny (model prog w) A (evalArgs (.ref C) true (backTo cpos (starEach args env)) [])
   (λa s₂=>a.kw=[]/\a.pos.length<=sizeLine/\s₂.heap.get? C=some (excClassObj nm q C N bs bm hdct sn sub ab col dd k0 k1 k2 k3 k5 newId)/\K.In s₂.heap/\OwnTail s₂.heap bmB bm /\
    ∀h' e,Heap.MadeExcOf s₂.heap h' e (.ref C) a.pos->wpAny (model prog w) (A.under (.builtin "type.__call__" ⟨.ref C::a.pos,[]⟩)) (call (.ref fI) (.ref e::a.pos))
     (λr s'=>r=.none/\∃oe vs,s'.heap.get? C=some (excClassObj nm q C N bs bm hdct sn sub ab col dd k0 k1 k2 k3 k5 newId)/\s'.heap.get? e=some oe/\oe.cls=.ref C/\oe.data=.fields vs/\vs[1]?=some .none/\E (.ref e) s') E {s₂ with heap:=h' }) E s₁) E s) :
  wpAny (model prog w) A (exec (.Raise (some (.Call (.Name x np) args [] cpos)) none pos) env) Q E s:=by
 rw[arm_exec_Raise];simp only[evalOpt,Option.map];refine wpAny_bind (wpAny_standAt (rf (C:=C) (nm:=nm) (q:=q) (N:=N) (bs:=bs) (bm:=bm) (hdct:=hdct) (sn:=sn) (sub:=sub) (ab:=ab) (col:=col) (dd:=dd) (k0:=k0) (k1:=k1) (k2:=k2) (k3:=k3) (k5:=k5) (newId:=newId) hbase hh (wpAny_bind (wpAny_mono (wpAny_Call_ofName (wpAny_mono h (λf s₁ h₁=>?_) λ_ _ x=>x)) (λv s₃ h₃=>wpAny_bind (wpAny_standAt (wpAny_pure h₃))) λ_ _ x=>x))));obtain⟨rfl,h₁⟩:=h₁;unfold callWith;refine wpAny_bind (wpAny_holding (wpAny_mono h₁ (λa s₂ h₂=>wpAny_bind (wpAny_standAt ?_)) λ_ _ x=>x));obtain⟨apos,akw⟩:=a;obtain⟨hkw,hlen,hC,hX,T,h₂⟩:=h₂;obtain rfl:akw=[]:=hkw;obtain⟨hp,g,d,tk,os⟩:=s₂;simp only[hplain];refine wpAny_bind (wpAny_keeperOf_exc hC ?_);refine wpAny_bind (qQ (hrest:=hlen) Fn hBn F T hX hC hi hf λh' e hm=>wpAny_mono (h₂ h' e hm) (λr s' hr=>⟨hr.1,wpAny_bind (wpAny_holding (wpAny_point (wpAny_pure ?_)))⟩) λ_ _ x=>x);obtain⟨_,oe,vs,a1,a2,a3,a4,a5,a6⟩:=hr;exact⟨e,oe,vs,rfl,a1,a2,a3,a4,a5,a6⟩
end
end PySem
namespace PySem.W
open PySem PySem.Spec PySem.Calls PyProof.Rows
open Builtin Builtin.ObjectAttr
noncomputable def excOut(K:Frag)(C:Addr)(bmB:K9)(newId:String):Bool:=match K.lookup C with
 |some ⟨.type "type",_,.cls cd,sl⟩=>(match cd.mro,sl.toList with
  | .ref C'::bm,[_,_,_,_,some (.builtin n),_]=>C'==C&&n==newId && !cd.hasDel&&tailIn K bmB bm&&nsOkIn K cd.ns
  |_,_=>false)
 |_=>false
noncomputable def strip:List Value->List Value
 | .ref _::r=>strip r
 |l=>l
theorem mq(self:Value):∀{l bm:K9},strip l=bm->refuseLoop self "__setattr__" bm=pure ()->refuseLoop self "__setattr__" l=pure ()
 | [],_,e,h=>by rw[show([]:List Value)=_ from e];exact h
 | .ref c::r,_,e,h=>by rw[refuseLoop_ref];exact mq self (l:=r) e h
 | .type n::r,_,e,h=>by rw[show(Value.type n::r)=_ from e];exact h
 | .none::r,_,e,h=>by rw[show(Value.none::r)=_ from e];exact h
 | .bool b::r,_,e,h=>by rw[show(Value.bool b::r)=_ from e];exact h
 | .int i t::r,_,e,h=>by rw[show(Value.int i t::r)=_ from e];exact h
 | .float i t::r,_,e,h=>by rw[show(Value.float i t::r)=_ from e];exact h
 | .str i t::r,_,e,h=>by rw[show(Value.str i t::r)=_ from e];exact h
 | .bytes i t::r,_,e,h=>by rw[show(Value.bytes i t::r)=_ from e];exact h
 | .builtin n::r,_,e,h=>by rw[show(Value.builtin n::r)=_ from e];exact h
 | .ellipsis::r,_,e,h=>by rw[show(Value.ellipsis::r)=_ from e];exact h
 | .notImplemented::r,_,e,h=>by rw[show(Value.notImplemented::r)=_ from e];exact h
structure XSt(K:Frag)(C:Addr)(f:Str):Prop where
 sa:findIn K (.ref C) "__setattr__"=some (some (.builtin "object.__setattr__"))
 st:∃cd,clsIn K C=some cd/\strip cd.mro=[.type "ValueError",.type "Exception",.type "BaseException",.type "object"]/\cd.hasDict=true/\cd.mro.contains (.type "object")=true/\cd.mro.isEmpty=false
 no:findIn K (.ref C) f=some none
section
variable {prog:Ld}{w:Lg}{A:Lf}{E:K4}{s:K8}{K:Frag}{x C:Addr}{ox:Obj}{vs:Array Value}{name:Str}{v:Value}
theorem set_new{Q:Unit->Shared->Prop}(X:K.In s.heap)(c:XSt K C name)(hx:s.heap.get? x=some ox)(hcl:ox.cls=.ref C)(hdn:ox.dict=none)(hdt:ox.data=.fields vs)
  (h:∀h' t',(∀b o,b≠x->s.heap.get? b=some o->h'.get? b=some o)->h'.get? x=some {ox with dict:=some s.heap.objs.size}->h'.Ns1 s.heap.objs.size (λy=>if y=name then some v else none)->Q () {s with heap:=h',toks:=t' }) :
  wpAny (model prog w) A (setAttr (.ref x) name v) Q E s:=by
 obtain⟨cd,hc,hst,hhd,hob,hne⟩:=c.st;obtain⟨oc,od,dt,sl⟩:=ox;dsimp only at hcl hdn hdt;subst hcl hdn hdt;have J:InstAt s.heap x ⟨.ref C,none,.fields vs,sl⟩ C none:=⟨hx,rfl,rfl,trivial⟩;obtain⟨hh,g,d,t,os⟩:=s;have SF:=PySem.F.store_object;refine set_plain X J c.sa ?_;have sub:Looks (model prog w) hh (isInstance (.ref x) (.type "object")) true:=J.type.andThen (looks_mroIn X (by unfold mroIn;rw[hc,Option.bind_some,if_neg (by rw[hne];decide),hob]));refine codeAny_call_builtin SF.slot.plain SF.entry (@check_slot (model prog w) _ _ _ "object.__setattr__" "object" "__setattr__" (.ref x) [.str name t,v] [] _ SF.kind SF.split sub (SF.args (.ref x) (.str name t) v) ?_);have hm:Looks (model prog w) hh (mroOf (.ref C)) cd.mro:=(looks_clsIn X hc).andThen .now;rw[osa_eq,refuse_eq];refine wpAny_bind (wpAny_bind (J.type.at (wpAny_bind (hm.at ?_))));rw[mq _ hst (PySem.F.store_ValueError.passes _)];refine wpAny_pure (wpAny_bind (J.type.at (wpAny_bind ((looks_findIn X c.no).at (wpAny_bind (wpAny_pure ?_))))));have hx₁:(hh.push {cls:=.type "dict",data:=.dict #[]}).get? x=some ⟨.ref C,none,.fields vs,sl⟩:=J9 _ hx;have hxs:x≠hh.objs.size:=Kr (Ky hx);show wpAny _ _ (storeInOwnDict (.ref x) (.ref C) (.str name t) name v false) _ _ _;refine wpAny_bind (wpAny_pure (wpAny_bind (wpAny_bind (wpAny_loadPart hx ?_))));refine wpAny_bind ((looks_clsIn X hc).at ?_);rw[if_neg (by rw[hhd];decide)];dsimp only;rw[if_neg (by simp[typeHasDict])];refine wpAny_bind (wpAny_alloc' ?_);refine wpAny_bind (wpAny_update' hx₁ ?_);refine wpAny_pure ?_;have hgd:((hh.push {cls:=.type "dict",data:=.dict #[]}).update x λo=>{cls:=o.cls,dict:=some hh.objs.size,data:=o.data,slots:=o.slots}).get? hh.objs.size
   = some {cls:=.type "dict",data:=.dict #[]}:=
  (Heap.get?_update_ne _ _ _ _ hxs.symm).trans (Heap.get?_push_at rfl rfl)
 have hnd:((hh.push {cls:=.type "dict",data:=.dict #[]}).update x λo=>{cls:=o.cls,dict:=some hh.objs.size,data:=o.data,slots:=o.slots}).Ns hh.objs.size (λ_=>none):=
  ⟨_,#[],_,hgd,rfl,λe he=>absurd he (by simp),λ_=>rfl⟩
 show wpAny _ _ (storeInDict hh.objs.size (.str name t) name v) _ _ _;unfold storeInDict newKeyGuard;refine wpAny_bind (wpAny_pure (wpAny_bind (wpAny_nsSet1 (Heap.Ns1.of_empty hnd) λh' hn' hs=>?_)));obtain⟨oD,esD,epD,hoD,hdD,hcD⟩:=hn'.count (Within.cons name v Within.nil);refine wpAny_bind (wpAny_lookBehind hoD (by rw[hdD];exact pastItsLine_dict (KD hcD (by rw[Ki,List.length_nil,sizeLine_eq];omega))) ?_);refine wpAny_pure (h h' _ (λb o hb e=>(hs.2 b (Kr (Ky e))).trans ((Heap.get?_update_ne _ _ _ _ hb).trans (J9 _ e))) ?_ hn');exact(hs.2 x hxs).trans (Kh _ hx₁ rfl)
end
end PySem.W
namespace L2
open PySem PySem.Spec PyProof.Rows
structure Ag(K:K5)(C:Addr)(bmB:K9)(newId:String):Prop where
 exc:PySem.W.excOut K C bmB newId=true
theorem Ag.obj{K:K5}{C:Addr}{bmB:K9}{newId:String}{h:Heap}(c:Ag K C bmB newId)(X:K.In h):∃bm N nm q bs hdct sn sub ab col dd k0 k1 k2 k3 k5,
  h.get? C=some (excClassObj nm q C N bs bm hdct sn sub ab col dd k0 k1 k2 k3 k5 newId)/\OwnTail h bmB bm/\∃dd' cd sl,K.lookup C=some ⟨.type "type",dd',.cls cd,sl⟩/\cd.mro=.ref C::bm:=by
 have q:=c.exc;unfold PySem.W.excOut at q;cases hl:K.lookup C with
 |none=>rw[hl]at q;cases q
 |some ob=>
  rw[hl]at q
  split at q
  ·rename_i dd cd sl e
   cases e
   split at q
   ·rename_i C' bm k0 k1 k2 k3 n k5 hm hs
    simp only[Bool.and_eq_true,beq_iff_eq,Bool.not_eq_true']at q;obtain⟨⟨⟨⟨rfl,rfl⟩,hdel⟩,ht⟩,hok⟩:=q;have ho:=X _ _ hl;have hsl:sl=#[k0,k1,k2,k3,some (.builtin n),k5]:=Array.toList_inj.mp hs;subst hsl;obtain⟨nm,bs,mro,ns,qn,hd,sn,sub,ab,col,del⟩:=cd;dsimp only at hm hdel hok ho;subst hm hdel;exact⟨bm,ns,nm,qn,bs,hd,sn,sub,ab,col,dd,k0,k1,k2,k3,k5,ho,PySem.W.tail_of_in X ht,dd,_,_,rfl,rfl⟩
   ·cases q
  ·cases q
noncomputable def FQ(ea:Addr)(cls:Value)(od:Lh)(h:Heap):Prop:=∃o vs,h.get? ea=some o/\o.cls=cls/\o.dict=od/\o.data=.fields vs/\vs[1]?=some .none/\vs[2]?=some .none/\vs.size=6
noncomputable abbrev xn(ea:Addr)(cls:Value)(od:Lh):HO:=.ext (FQ ea cls od)
theorem se{ea:Addr}{cls:Value}{od:Lh}:∀h1 h2:Heap,FQ ea cls od h1->(∀o,h1.get? ea=some o->h2.get? ea=some o)->FQ ea cls od h2:=
 λh1 h2 ⟨o,ws,e1,e2,e3,e4,e5⟩ k=>⟨o,ws,k o e1,e2,e3,e4,e5⟩
section
variable {X:Cx}{o value:Expr}{f:Str}{pos pos':Pos}{ta tv:TE}
noncomputable def Cp(K:K5)(ta tv:TE)(f:Str):TS:=λD σ H=>tv σ H λy H1=>ta σ H1 λx H2=>∃a C,x=.ref a/\H2 a=some (xn a (.ref C) none)/\PySem.W.XSt K C f /\
 ∀d,H2 d=none->D.nx σ (ax (ax H2 d (.xd [(f,y)])) a (xn a (.ref C) (some d)))
theorem yY(ha:PE X o ta)(hv:PE X value tv)(hs:swapsWith value (some (.Attribute o f pos')) pos.line X.env=pure false):PS X (.Assign [.Attribute o f pos'] value pos) (Cp X.K ta tv f):=by
 intro pins s σ H D I h;refine plainObj_wpAny_Assign_Attribute (bZ (hv pins s σ H _ I h) λu s1 ⟨y,H1,I1,ry,q⟩=>bZ (ha pins s1 σ H1 _ I1 q) λov s2 ⟨x,H2,I2,rx,a,C,ex,ea,c,q2⟩=>?_) hs;subst ex;obtain rfl:ov=Value.ref a:=rx;obtain⟨⟨ob,ws,e1,e2,e3,e4,e5⟩,_,_⟩:=(show bS X.prog X.w H2 s2.heap a (xn a (.ref C) none) from I2.hok a _ ea);refine PySem.W.set_new I2.kIn c e1 e2 e3 e4 λh' t' hk hx hn=>?_;have hfr:H2 s2.heap.objs.size=none:=I2.hok.fresh (Kv _);have hne:s2.heap.objs.size≠a:=Nat.ne_of_gt (Ky e1);have oa:(h'.update a λ_=>ob).get? a=some ob:=Kh _ hx (Obj.isFreed_of_fields e4);have oo:∀b,b≠a->(h'.update a λ_=>ob).get? b=h'.get? b:=λb hb=>Kc _ _ (Ne.symm hb);have I3:Inv X pins σ (ax H2 s2.heap.objs.size (.xd [(f,y)])) {s2 with heap:=h'.update a λ_=>ob,toks:=t' }:=I2.laid (λb u z=>by
   by_cases hb:b=a
   ·subst hb;rw[e1]at z;cases z;exact oa
   ·rw[oo b hb];exact hk b u hb z) (Kv _) ⟨_,hn.at λo z=>(oo _ hne).trans z,λg=>?_⟩
 ·have I4:=I3.write (x:=a) (e:=a) (o:=xn a (.ref C) (some s2.heap.objs.size)) (h':=h') (t':=t') (by rw[ao (Ne.symm hne),ea];exact True.intro) (.inl rfl) (λb u hb z=>by rw[<- oo b hb];exact z) ⟨_,hx⟩ ⟨⟨_,ws,hx,e2,rfl,e4,e5⟩,⟨_,hx⟩,se⟩
  exact⟨σ,_,I4,q2 _ hfr⟩
 ·show jO (List.lookup g [(f,y)]) (if g=f then some u else none)
  by_cases z:g=f
  ·have hb:(g==f)=true:=beq_iff_eq.mpr z
   simp only[List.lookup,hb,if_pos z];exact ry
  ·have hb:(g==f)=false:=beq_eq_false_iff_ne.mpr z
   simp only[List.lookup,hb,if_neg z];exact True.intro
end
noncomputable def mv(C:Addr)(fn:Str):Sp:=λvs H Q _=>∃a v,vs=[.ref a,v]/\H a=some (xn a (.ref C) none)/\∀d,H d=none->Q .non (ax (ax H d (.xd [(fn,v)])) a (xn a (.ref C) (some d)))
noncomputable def ur(H:Hp)(e:Addr):Hp:=λb=>if b=e then none else H b
theorem fU{H:Hp}{e b:Addr}(h:b≠e):ur H e b=H b:=by unfold ur;rw[if_neg h]
theorem kh{H:Hp}{e:Addr}:ur H e e=none:=by unfold ur;rw[if_pos rfl]
noncomputable def Cv(X:Cx)(E:XK):Prop:=∀(pins:K6) (σ:St) (H2:Hp) (s2:K8) (hm:Heap) (H3:Hp) (s3:K8) (e C:Addr) (od:Lh),Inv X pins σ H2 s2->Inv X pins σ H3 s3->s2.heap.get? e=none ->
 (∀b o,s2.heap.get? b=some o->hm.get? b=some o)->Un (mM X.stack) [] (ax H2 e (xn e (.ref C) none)) H3 hm s3.heap->s3.os=s2.os->H3 e=some (xn e (.ref C) od)->E (.ref C) od (ur H3 e)->X.xe (.ref e) s3
section
variable {P:Ld}{w:Lg}{K:K5}{mg:Lb}{base:Heap}{N:Le}{qual:Str}{scope:Scope}{f:Addr}{cd:Value}{A:Lf}{outer:List Env}{s:K8}{H:Hp}{E E1:XK}
theorem d8(hE:∀c d H',E1 c d H'->E c d H'):Cv (gy (bz P w) P w K mg base N qual scope f cd A outer s H E) E1:=by
 intro pins σ H2 s2 hm H3 s3 e C od I2 I3 new keep un os3 he3 q;obtain⟨⟨oe,vs,g1,g2,g3,g4,g5⟩,_,_⟩:=(show bS P w H3 s3.heap e (xn e (.ref C) od) from I3.hok e _ he3);have ne:∀b o,s2.heap.get? b=some o->b≠e:=λb o z y=>by rw[y,new]at z;cases z
 have h2e:H2 e=none:=by
  cases z:H2 e with
  |none=>rfl
  |some o=>
   obtain⟨ob,hob⟩:=(I2.hok e o z).there;rw[new]at hob;cases hob
 have hin:∀env∈(gy (bz P w) P w K mg base N qual scope f cd A outer s H E).stack,∀b,env.frame=some b->b∈e::mM (gy (bz P w) P w K mg base N qual scope f cd A outer s H E).stack:=λenv he b hb=>.tail _ (List.mem_filterMap.mpr ⟨env,he,hb⟩);have hff:=PySem.W.funFrames_hide I3.stack hin;have u0:∀b,b≠e->H2 b=none->ax H2 e (xn e (.ref C) none) b=none:=λb hb n=>by rw[ao hb];exact n
 have fly0:Fly0 P w (gy (bz P w) P w K mg base N qual scope f cd A outer s H E).stack H2 s2 (PySem.W.hideAll s3.heap (e::mM (gy (bz P w) P w K mg base N qual scope f cd A outer s H E).stack)) (ur H3 e) s3:=by
  refine⟨λb o z=>PySem.W.of_hideAll _ z,hff,⟨λb o z n hb _=>un.keep b o (keep b o z) (u0 b (ne b o z) n) hb (by simp),λb o z n hb _=>un.slot b o (keep b o z) (u0 b (ne b o z) n) hb (by simp),λb o z n _=>?_,λb o z _=>un.there b o (keep b o z) (by simp),λb xs z=>?_,λb o y z=>?_,λb ps z=>?_⟩,λb o z=>?_,λb o z=>?_,λb o z hb=>?_,os3,I3.bare⟩
  ·rw[fU (ne b o z)]
   exact un.free b o (keep b o z) (u0 b (ne b o z) n) (by simp)
  ·have hb:b≠e:=aC z h2e
   rw[fU hb];exact un.tups b xs (by rw[ao hb];exact z)
  ·have hb:b≠e:=aC z h2e
   rw[fU hb];exact un.frzs b o y (by rw[ao hb];exact z)
  ·have hb:b≠e:=aC z h2e
   rw[fU hb];exact un.tbls b ps (by rw[ao hb];exact z)
  ·have hb:b≠e:=λy=>by rw[y,kh]at z;cases z
   rw[fU hb]at z;exact(I3.hok b o z).stay (λ_ _ _ y=>y) (λc y=>by rw[fU (λx=>by rw[x,he3]at y;cases y)];exact y) λc xs y=>by rw[fU (λx=>by rw[x,he3]at y;cases y)];exact y
  ·have hb:b≠e:=λy=>by rw[y,kh]at z;cases z
   rw[fU hb]at z;obtain⟨ob,hob⟩:=(I3.hok b o z).there;refine⟨ob,PySem.W.hideAll_get _ hob λhm=>?_⟩;rcases Km.mp hm with y | y
   ·exact hb y
   ·rw[I3.stkFree b y]at z;cases z
  ·obtain⟨o',z'⟩:=un.there b o (keep b o z) (by simp)
   refine⟨o',PySem.W.hideAll_get _ z' λhm=>?_⟩;rcases Km.mp hm with y | y
   ·exact ne b o z y
   ·exact hb y
 have newB:(PySem.W.hideAll s3.heap (e::mM (gy (bz P w) P w K mg base N qual scope f cd A outer s H E).stack)).get? e=none:=PySem.W.hideAll_none _ (List.mem_cons_self ..);refine yS (cp:=λv=>v=.none) (s:=s3) I3.ok.frames fly0.ff rfl g1 fly0.st newB g4 g5.1 ⟨_,g5.2.1,rfl⟩ λh' fl2 up=>?_;rw[g2,g3]at fl2;exact⟨e,.ref C,od,_,ur H3 e,rfl,Fly0.up I2 rfl rfl rfl rfl rfl fly0 fl2 up,kh,hE _ _ _ q⟩
end
structure XI(P:Ld)(w:Lg)(K:K5)(mg:Lb)(base:Heap)(k:Nat)(C:Addr)(fn:Str):Prop where
 ex:∃(bm bmN:K9) (newId Bn inN B nid initId:String) (fI:Addr) (fd:Lc) (ps:Le),Ag K C bm newId/\ExcBaseFacts Bn newId inN bmN/\bm.contains (.type Bn)=true/\ExcBaseFacts B nid initId bm /\
  PySem.W.findIn K (.ref C) "__init__"=some (some (.ref fI))/\PySem.W.typeIn K (.ref fI)=some (.type "function")/\aQ P w K mg base bG k fI fd ps (mv C fn)/\cn K fd ps []
section
variable {X:Cx}{x:Str}{np cpos pos:Pos}{e₀:Expr}{t:TA}{C:Addr}{fn:Str}{k:Nat}{E:XK}
noncomputable def s_(C:Addr)(fn:Str)(E:XK)(t:TA):TS:=λ_ σ H=>t σ H λvs H1=>vs.length<=sizeLine/\∃v,vs=[v]/\∀d,H1 d=none->E (.ref C) (some d) (ax H1 d (.xd [(fn,v)]))
theorem d_(c:XI X.prog X.w X.K X.mg X.base k C fn)(hr:dr (k+1) X.A)(hc:X.calm=true)(hg:Gl X x)(hm:X.mg x=some (.ref C))(hx:Cv X E)(ha:PA X [e₀] t)
  (hd:autoParam ((x==("__debug__":Str))=false) zz2._auto_1) (he:autoParam (starEach [e₀] X.env=(false,eval e₀ X.env)::starEach [] X.env) zz0._auto_1) (hpl:autoParam ((backTo cpos (starEach [] X.env)).any (·.1)=false) zz0._auto_1) :
  PS X (.Raise (some (.Call (.Name x np) [e₀] [] cpos)) none pos) (s_ C fn E t):=by
 obtain⟨bmB,bmN,newId,Bn,inN,B,nid,initId,fI,fd,ps,c1,c2,c3,c4,hi,hf,F,hb⟩:=c.ex;intro pins s σ H D I h;obtain⟨tl,N,nm,q,bs,hdct,sn,sub,ab,col,dd,k0,k1,k2,k3,k5,hC,T,_⟩:=c1.obj I.mod.kin;refine m8 (K:=X.K) (fI:=fI) (C:=C) (nm:=nm) (q:=q) (N:=N) (bs:=bs) (bm:=tl) (hdct:=hdct) (sn:=sn) (sub:=sub) (ab:=ab) (col:=col) (dd:=dd) (k0:=k0) (k1:=k1) (k2:=k2) (k3:=k3) (k5:=k5)
  c2 c3 c4 (T.hasType c4.hasBase) (I.ok.hd hc) (by rw[he];show(false||(backTo cpos (starEach [] X.env)).any (·.1))=false;rw[hpl];rfl) hi hf (kl I hg hm ⟨rfl,?_⟩ hd)
 rw[he];have ha':=ha cpos pins s σ H _ I h;rw[he]at ha';refine Calls.evalArgs_plain (wpAny_mono ha' (λus s₂ ⟨vs,H1,I1,r1,z,v,ev,q1⟩=>⟨rfl,by rw[<- r1.length];exact z,I1.bk _ _ hC,I1.kIn,T.keeps I1.bk,λh' e hx'=>?_⟩) λ_ _ y=>y);subst ev;obtain⟨u,rfl,ru⟩:=r1.one;obtain⟨t0,he0,ht0,htt⟩:=hx'.there;have ne:∀b o,s₂.heap.get? b=some o->b≠e:=λb o z y=>by rw[y,hx'.new]at z;cases z
 have h1e:H1 e=none:=by
  cases z:H1 e with
  |none=>rfl
  |some o=>
   obtain⟨ob,hob⟩:=(I1.hok e o z).there;rw[hx'.new]at hob;cases hob
 have Im:Inv X pins σ (ax H1 e (xn e (.ref C) none)) {s₂ with heap:=h' }:=by
  refine I1.call' (s':={s₂ with heap:=h' }) (ch:=[]) rfl ⟨λb o z _ _ _=>hx'.keeps b o z,λb o z _ _ _=>⟨o.slots,hx'.keeps b o z⟩,λb o z n _=>by rw[ao (ne b o z)];exact n,λb o z _=>⟨o,hx'.keeps b o z⟩,λb xs z=>by rw[ao (aC z h1e)];exact z,λb o y z=>by rw[ao (aC z h1e)];exact z,λb ps z=>⟨#[],by rw[ao (aC z h1e),z];simp⟩⟩ (λb o z=>?_) I1.bare (λb z=>absurd z (by simp))
  by_cases hb:b=e
  ·subst hb
   rw[ac]at z;cases z;exact⟨⟨_,_,he0,rfl,rfl,rfl,rfl,rfl,rfl⟩,⟨_,he0⟩,se⟩
  ·rw[ao hb]at z
   exact(I1.hok b o z).stay (λc u _ y=>hx'.keeps c u y) (λc y=>by rw[ao (aC y h1e)];exact y) λc xs y=>by rw[ao (aC y h1e)];exact y
 have hsp:mv C fn [.ref e,v] (ax H1 e (xn e (.ref C) none)) (λr H3=>r=.non/\∃d,H3 e=some (xn e (.ref C) (some d))/\E (.ref C) (some d) (ur H3 e)) (λ_ _ _=>False):=by
  refine⟨e,v,rfl,ac,λd hd'=>⟨rfl,d,ac,?_⟩⟩;have hde:d≠e:=λy=>by rw[y,ac]at hd';cases hd'
  rw[ao hde]at hd';have ee:ur (ax (ax (ax H1 e (xn e (.ref C) none)) d (.xd [(fn,v)])) e (xn e (.ref C) (some d))) e=ax H1 d (.xd [(fn,v)]):=by
   funext b
   by_cases hb:b=e
   ·rw[hb,kh,ao (Ne.symm hde)];exact h1e.symm
   ·rw[fU hb,ao hb]
    by_cases hbd:b=d
    ·rw[hbd,ac,ac]
    ·rw[ao hbd,ao hb,ao hbd]
  rw[ee];exact q1 d hd'
 have hl:([Value.ref e,u]++[]).length=ps.length:=(F.len _ _ _ _ hsp:[V.ref e,v].length=ps.length);have r2:bg [V.ref e,v] [Value.ref e,u]:=.cons rfl (.cons ru .nil);refine wpAny_call (codeAny_mono (F.run _ X.stack _ _ ⟨[.ref e,u],[]⟩ [.ref e,u] _ _ _ (hr.make C [u] []) (Im.env0.make C [u] []) (hb _ [Value.ref e,u] Im.kIn hl) r2 hsp) λr s' hq'=>?_);cases r with
 |error ev=>exact False.elim hq'
 |ok fl=>
  cases fl with
  |ret u'=>
   obtain⟨v',H3,os3,bare3,un3,hok3,rv,ev,d,he3,qE⟩:=hq';subst ev;have I3:=Im.call' (ch:=[]) os3 un3 hok3 bare3 (λb z=>absurd z (by simp));obtain⟨⟨oe,ws,g1,g2,g3,g4,g5⟩,_,_⟩:=(show bS X.prog X.w H3 s'.heap e (xn e (.ref C) (some d)) from I3.hok e _ he3);exact⟨rv,oe,ws,I3.bk _ _ hC,g1,g2,g4,g5.1,hx pins σ H1 s₂ h' H3 s' e C (some d) I1 I3 hx'.new hx'.keeps un3 os3 he3 qE⟩
  |next=>exact False.elim hq'
  |brk=>exact False.elim hq'
  |cont=>exact False.elim hq'
end
section
variable {X:Cx}{P:Ld}{w:Lg}{e tg:Expr}{tx:TX}{g:TG}{i:Nat}{n x:Str}{D:Addr}{bmD:K9}{nD:String}{b₀:Stmt}{suite:List Stmt}{apos pos hpos np:Pos}{ts:Addr->TS}
end
section
variable {X:Cx}{pins:K6}{σ:St}{H:Hp}{s:K8}
end
end L2
namespace PySem.W
open PySem PySem.Spec PySem.Calls PyProof.Rows
section
variable {prog:Ld}{w:Lg}{A:Lf}{E:K4}{s:K8}{K:Frag}{x D:Addr}{ox:Obj}{odo:Option Obj}{name:Str}
end
end PySem.W
namespace L2
open PySem PySem.Spec PyProof.Rows
section
variable {X:Cx}{e:Expr}{ta:TE}{f:Str}{pos:Pos}
end
end L2
namespace SpM
open PySem
noncomputable def step(c:Nat)(rows:List (List Nat))(d:Nat):List (List Nat):=if d=c then rows++[[]] else rows.dropLast++[rows.getLastD []++[d]]
noncomputable def Dp(c:Nat)(x:K7):List (List Nat):=x.foldl (step c) [[]]
theorem o9(c:Nat){n:Nat}{rows:List (List Nat)}(h:∀r∈rows,r.length<=n)(d:Nat):∀r∈step c rows d,r.length<=n+1:=by
 intro r hr;unfold step at hr
 split at hr
 ·rcases Kk.mp hr with q | q
  ·exact Nat.le_succ_of_le (h r q)
  ·rw[J'.mp q];simp
 ·rcases Kk.mp hr with q | q
  ·exact Nat.le_succ_of_le (h r (List.dropLast_subset _ q))
  ·rw[J'.mp q,Ku]
   have:(rows.getLastD []).length<=n:=by
    by_cases e:rows=[]
    ·rw[e];simp
    ·have hl:rows.getLastD []∈rows:=by
      rw[List.getLastD_eq_getLast?,List.getLast?_eq_some_getLast e];exact List.getLast_mem e
     exact h _ hl
   simpa using this
theorem zJ(c:Nat)(rows:List (List Nat))(d:Nat):(step c rows d).length<=rows.length+1:=by
 unfold step
 split
 ·simp
 ·rw[Ku,List.length_dropLast];simp
theorem mE(c:Nat):∀(x:K7) (rows:List (List Nat)) (n:Nat),(∀r∈rows,r.length<=n)->(∀r∈x.foldl (step c) rows,r.length<=n+x.length)/\(x.foldl (step c) rows).length<=rows.length+x.length
 | [],rows,n,h=>⟨by simpa using h,by simp⟩
 |d::x,rows,n,h=>by
  obtain⟨h1,h2⟩:=mE c x (step c rows d) (n+1) (o9 c h d);have h3:=zJ c rows d;refine⟨λr hr=>?_,?_⟩
  ·have:=h1 r hr;simp only[Ki];omega
  ·rw[List.foldl_cons];simp only[Ki];omega
theorem sJ(c:Nat)(x:K7):(∀r∈Dp c x,r.length<=x.length)/\(Dp c x).length<=1+x.length:=by
 have:=mE c x [[]] 0 (by simp);unfold Dp;simpa using this
end SpM
namespace PyProof.Rows
open PySem PySem.Spec PySem.Builtin PySem.Builtin.Str
section
variable {prog:Ld}{w:Lg}{A:Lf}{E:K4}{s:K8}{x y:Str}{t u:Tok}{Q:K4}
end
end PyProof.Rows
namespace L2
open PySem PySem.Spec PyProof.Rows QL
section
variable {X:Cx}
end
structure Dq(K:K5)(C:Addr)(m:Str)(f:Addr):Prop where
 sp:PySem.W.specialIn K (.ref C) "__getattribute__"=some (some (.builtin "type.__getattribute__"))
 rd:PySem.W.readsIn K C (.type "type")=true
 fi:PySem.W.findCls K (.ref C) (.type "type") m=some (.val (.ref f))
 kp:PySem.W.keepIn K (.ref f)=true
section
variable {X:Cx}{CX:k8}{k:Nat}{f C:Addr}{fd:Lc}{ps:Le}{sp:Sp}{E:XK}{x m:Str}{p pos apos:Pos}{e:Expr}{es:Li}{t:TA}
theorem Bp{pl:Sem Bool}(c:Dq X.K C m f)(F:aQ X.prog X.w X.K X.mg X.base CX k f fd ps sp)(hr:dr k X.A)(hg:Gl X x)(hm:X.mg x=some (.ref C))(hb:cn X.K fd ps [])(hx:cZ CX X E)(ha:PA X (e::es) t)
  (hdb:autoParam ((x==("__debug__":Str))=false) zz2._auto_1) (hst:autoParam (starEach (e::es) X.env=(false,eval e X.env)::starEach es X.env) zz0._auto_1) (hpl:autoParam ((backTo pos (starEach es X.env)).any (·.1)=false) zz0._auto_1)
  (ht:autoParam (eval (.Call (.Attribute (.Name x p) m apos) (e::es) [] pos) X.env=(do
   let ov <- eval (.Name x p) X.env
   standAt apos.atName
   let (f,first) <- holding [ov] (getMethod ov m pl)
   callWith pos f first (backTo pos (starEach (e::es) X.env)) (backToKw pos (keywordEach [] X.env)))) zz0._auto_1) :
  PE X (.Call (.Attribute (.Name x p) m apos) (e::es) [] pos) (nV sp [] E t):=by
 intro pins s σ H Q I h;refine PySem.W.methodCall_KW (pl:=pl) (kl I hg hm ?_ hdb) ht;refine PySem.W.method_cls I.kIn c.sp (PySem.W.cls_value I.kIn c.rd c.fi rfl ?_);have I1:=I.tok (s.toks+1);refine PySem.W.callWith_K (first:=[]) (h₀:=X.base) I.ok.mod.kin c.kp (bZ (ha pos pins _ σ H _ I1 h) λus s2 ⟨vs,H2,I2,r,q2⟩=>⟨I2.kIn,?_⟩) hst hpl;exact mP F hr hb .nil hx I2 r q2
end
section
variable (P:Ld)(w:Lg)(K:K5)(mg:Lb)(base:Heap)(CX:k8)
structure A'(k:Nat)(x m:Str)(ps:Le)(sp:Sp):Prop where
 ex:∃(C f:Addr) (fd:Lc),aQ P w K mg base CX k f fd ps sp/\mg x=some (.ref C)/\Dq K C m f/\cn K fd ps []
structure kT(k:Nat)(x:Str)(C:Addr)(ps:Le)(sp:Sp):Prop where
 ex:∃(f:Addr) (fd:Lc),aQ P w K mg base CX k f fd ps sp/\mg x=some (.ref C)/\Mk K C f/\cn K fd ps []
structure bX(k:Nat)(C:Addr)(m:Str)(ps:Le)(sp:Sp):Prop where
 ex:∃(f:Addr) (fd:Lc),aQ P w K mg base CX k f fd ps sp/\lW K C/\cN K C m f/\cn K fd ps []
end
section
variable {X:Cx}{CX:k8}{k:Nat}{C:Addr}{ps:Le}{sp:Sp}{E:XK}{x m:Str}{p pos apos:Pos}{e o:Expr}{es:Li}{t:TA}{ta:TE}
theorem oV{pl:Sem Bool}(c:A' X.prog X.w X.K X.mg X.base CX k x m ps sp)(hr:dr k X.A)(hg:Gl X x)(hx:cZ CX X E)(ha:PA X (e::es) t)
  (hdb:autoParam ((x==("__debug__":Str))=false) zz2._auto_1) (hst:autoParam (starEach (e::es) X.env=(false,eval e X.env)::starEach es X.env) zz0._auto_1) (hpl:autoParam ((backTo pos (starEach es X.env)).any (·.1)=false) zz0._auto_1)
  (ht:autoParam (eval (.Call (.Attribute (.Name x p) m apos) (e::es) [] pos) X.env=(do
   let ov <- eval (.Name x p) X.env
   standAt apos.atName
   let (f,first) <- holding [ov] (getMethod ov m pl)
   callWith pos f first (backTo pos (starEach (e::es) X.env)) (backToKw pos (keywordEach [] X.env)))) zz0._auto_1) :
  PE X (.Call (.Attribute (.Name x p) m apos) (e::es) [] pos) (nV sp [] E t):=by
 obtain⟨C,f,fd,F,hm,cf,hb⟩:=c.ex;exact Bp cf F hr hg hm hb hx ha hdb hst hpl ht
theorem fQ(c:kT X.prog X.w X.K X.mg X.base CX k x C ps sp)(hr:dr (k+1) X.A)(hg:Gl X x)(hx:cZ CX X E)(ha:PA X (e::es) t)
  (hdb:autoParam ((x==("__debug__":Str))=false) zz2._auto_1) (hst:autoParam (starEach (e::es) X.env=(false,eval e X.env)::starEach es X.env) zz0._auto_1) (hpl:autoParam ((backTo pos (starEach es X.env)).any (·.1)=false) zz0._auto_1) :
  PE X (.Call (.Name x p) (e::es) [] pos) (yN C sp [] E t):=by
 obtain⟨f,fd,F,hm,M,hb⟩:=c.ex;exact Ea M F hr hg hm hb .nil hx ha hdb hst hpl
theorem bJ{pl:Sem Bool}(c:bX X.prog X.w X.K X.mg X.base CX k C m ps sp)(hr:dr k X.A)(hx:cZ CX X E)(he:PE X o ta)(ha:PA X (e::es) t)
  (hst:autoParam (starEach (e::es) X.env=(false,eval e X.env)::starEach es X.env) zz0._auto_1) (hpl:autoParam ((backTo pos (starEach es X.env)).any (·.1)=false) zz0._auto_1)
  (ht:autoParam (eval (.Call (.Attribute o m apos) (e::es) [] pos) X.env=(do
   let ov <- eval o X.env
   standAt apos.atName
   let (f,first) <- holding [ov] (getMethod ov m pl)
   callWith pos f first (backTo pos (starEach (e::es) X.env)) (backToKw pos (keywordEach [] X.env)))) zz0._auto_1) :
  PE X (.Call (.Attribute o m apos) (e::es) [] pos) (rE C m sp [] E ta t):=by
 obtain⟨f,fd,F,cl,hm,hb⟩:=c.ex;exact Ex he cl hm F hr hb .nil hx ha hst hpl ht
theorem Du{pl:Sem Bool}(c:bX X.prog X.w X.K X.mg X.base CX k C m ps sp)(hr:dr k X.A)(hx:cZ CX X E)(he:PE X o ta)
  (ht:autoParam (eval (.Call (.Attribute o m apos) [] [] pos) X.env=(do
   let ov <- eval o X.env
   standAt apos.atName
   let (f,first) <- holding [ov] (getMethod ov m pl)
   callWith pos f first (backTo pos (starEach [] X.env)) (backToKw pos (keywordEach [] X.env)))) zz0._auto_1) :
  PE X (.Call (.Attribute o m apos) [] [] pos) (rE C m sp [] E ta tT):=by
 obtain⟨f,fd,F,cl,hm,hb⟩:=c.ex;exact BK he cl hm F hr hb .nil hx ht
end
section
variable {g:TG}{ti:TT}{te:TE}{σ:St}{H:Hp}{Q:List V->Hp->Prop}
theorem DD{x:Str}(Pv:Nat->List V->St->Hp->Prop)(h0:Pv 0 [] σ H)(hz:∀i acc σ H,Pv i acc σ H->acc.length<sizeLine)(hi:∀i acc σ H,Pv i acc σ H->i<=x.cps.size)
  (hs:∀i c acc σ H,x.cps[i]?=some c->Pv i acc σ H->g (.str ⟨#[c]⟩) σ H λσ2 H3=>ti σ2 H3 λb H4=>if b=true then te σ2 H4 λv H5=>Pv (i+1) (acc++[v]) σ2 H5 else Pv (i+1) acc σ2 H4)
  (he:∀acc σ H,Pv x.cps.size acc σ H->Q acc H):i9 (Gd x) g ti te σ H Q:=by
 exact j' (J:=Gd x) (g:=g) (ti:=ti) (te:=te) (Q:=Q) (n:=x.cps.size) Pv h0 hz hi (λacc σ H w=>Kv _) (λi acc σ H hlt w=>hlt)
  (λi v acc σ H H2 hlt w y=>by obtain⟨rfl,c,hc,rfl⟩:=y;exact hs i c acc σ H2 hc w) he
end
section
variable {X:Cx}{e:Expr}{tx:TX}{i:Nat}{n x:Str}{D:Addr}{bmD:K9}{nD:String}{b₀:Stmt}{suite:List Stmt}{epos pos hpos np:Pos}{ts:Addr->TS}
end
section
variable (P:Ld)(w:Lg)(K:K5)(mg:Lb)(base:Heap)(CX:k8)
structure oG(k:Nat)(m:Str)(os:List (Addr×Sp)):Prop where
 ex:∀o∈os,∃ps,bX P w K mg base CX k o.1 m ps o.2
end
noncomputable def tK(m:Str)(os:List (Addr×Sp))(E:XK)(ta:TE)(t:TA):TE:=λσ H Q=>ta σ H λx H1=>∃o∈os,∃a dx fs,x=.ref a/\H1 a=some (.ins o.1 dx fs)/\fs.lookup m=none /\
 t σ H1 λvs H2=>o.2 (x::(vs++[])) H2 Q E
section
variable {X:Cx}{CX:k8}{k:Nat}{os:List (Addr×Sp)}{E:XK}{m:Str}{pos apos:Pos}{e o:Expr}{es:Li}{t:TA}{ta:TE}
theorem yw{pl:Sem Bool}(c:oG X.prog X.w X.K X.mg X.base CX k m os)(hr:dr k X.A)(hx:cZ CX X E)(he:PE X o ta)(ha:PA X (e::es) t)
  (hst:autoParam (starEach (e::es) X.env=(false,eval e X.env)::starEach es X.env) zz0._auto_1) (hpl:autoParam ((backTo pos (starEach es X.env)).any (·.1)=false) zz0._auto_1)
  (ht:autoParam (eval (.Call (.Attribute o m apos) (e::es) [] pos) X.env=(do
   let ov <- eval o X.env
   standAt apos.atName
   let (f,first) <- holding [ov] (getMethod ov m pl)
   callWith pos f first (backTo pos (starEach (e::es) X.env)) (backToKw pos (keywordEach [] X.env)))) zz0._auto_1) :
  PE X (.Call (.Attribute o m apos) (e::es) [] pos) (tK m os E ta t):=by
 intro pins s σ H Q I h;refine PySem.W.methodCall_KW (pl:=pl) (bZ (he pins s σ H _ I h) λu s1 ⟨x,H1,I1,rx,oc,ho,a,dx,fs,ex,ea,l,q⟩=>?_) ht;subst ex;obtain rfl:u=Value.ref a:=rx;obtain⟨ps,cm⟩:=c.ex oc ho;obtain⟨f,fd,F,cl,hm,hb⟩:=cm.ex;refine gl I1 ea cl hm l ?_;refine PySem.W.callWith_K (first:=[.ref a]) (h₀:=X.base) I.ok.mod.kin hm.kp (bZ (ha pos pins s1 σ H1 _ I1 q) λus s2 ⟨vs,H2,I2,r,q2⟩=>⟨I2.kIn,?_⟩) hst hpl;exact mP (us:=.ref a::us) (vs:=.ref a::vs) F hr hb .nil hx I2 (.cons rfl r) q2
theorem vx{pl:Sem Bool}(c:oG X.prog X.w X.K X.mg X.base CX k m os)(hr:dr k X.A)(hx:cZ CX X E)(he:PE X o ta)
  (ht:autoParam (eval (.Call (.Attribute o m apos) [] [] pos) X.env=(do
   let ov <- eval o X.env
   standAt apos.atName
   let (f,first) <- holding [ov] (getMethod ov m pl)
   callWith pos f first (backTo pos (starEach [] X.env)) (backToKw pos (keywordEach [] X.env)))) zz0._auto_1) :
  PE X (.Call (.Attribute o m apos) [] [] pos) (tK m os E ta tT):=by
 intro pins s σ H Q I h;refine PySem.W.methodCall_KW (pl:=pl) (bZ (he pins s σ H _ I h) λu s1 ⟨x,H1,I1,rx,oc,ho,a,dx,fs,ex,ea,l,q⟩=>?_) ht;subst ex;obtain rfl:u=Value.ref a:=rx;obtain⟨ps,cm⟩:=c.ex oc ho;obtain⟨f,fd,F,cl,hm,hb⟩:=cm.ex;refine gl I1 ea cl hm l ?_;exact PySem.W.callWith_K0 (first:=[.ref a]) I1.kIn hm.kp (mP (us:=[.ref a]) (vs:=[.ref a]) F hr hb .nil hx I1 (.cons rfl .nil) q)
end
structure fD(K:K5)(C:Addr):Prop where
 cl:lW K C
 ha:PySem.W.findIn K (.ref C) "__class__"=some (some (.builtin "object.__class__"))
 hn:PySem.W.specialIn K (.builtin "object.__class__") "__get__"=some (some (.builtin "getset_descriptor.__get__"))
 htk:PySem.W.takesIn K (.builtin "object.__class__")=some true
 hm:PySem.W.mroIn K C (.type "object")=some true
theorem fD.ty{K:K5}{C a dx:Addr}{H:Hp}{fs:List (Str×V)}(i:fD K C)(e:H a=some (.ins C dx fs)):kr K H (.ref a) (.ref C):=.ins e i.cl i.ha i.hn i.htk i.hm
section
variable {X:Cx}{CX:k8}{k:Nat}{os:List (Addr×Sp)}{m:Str}{pos apos:Pos}{e o:Expr}{es:Li}{t:TA}{ta:TE}
end
section
variable {X:Cx}{es:Li}{t:TA}
theorem bL{x j p}(hr:PA X es t):PA X (.Constant (.str x) j p::es) (pi (tC (.str x)) t):=aa jX hr rfl
theorem bK{x j p}(hr:PA X es t):PA X (.Constant (.int x) j p::es) (pi (tC (.int x)) t):=aa aj hr rfl
end
end L2
namespace PyProof.Rows
open PySem PySem.Spec PySem.Builtin PySem.Builtin.Str
section
variable {prog:Ld}{w:Lg}{A:Lf}{E:K4}{s:K8}{x y:Str}{t u:Tok}{Q:K4}
end
end PyProof.Rows
namespace L2
open PySem PySem.Spec PyProof.Rows QL
section
variable {X:Cx}
end
section
variable {X:Cx}
end
section
variable {X:Cx}{pins:K6}{σ:St}{H:Hp}{s:K8}{a:Addr}{kvs:List (cS×V)}{k:cS}{u r:Value}{d:V}{A:Lf}{E:K4}
theorem Dd{Q:K4}(I:Inv X pins σ H s)(e:H a=some (.dK kvs))(ry:bq (kV k) u)(rd:bq d r)(hl:kvs.length<sizeLine)
  (h1:∀v w' s',cg kvs k=some v->Inv X pins σ H s'->bq v w'->Q w' s') (h2:cg kvs k=none->∀s',Inv X pins σ (ax H a (.dK (cC kvs k d))) s'->Q r s') :
  wpAny (model X.prog X.w) A (call (.builtin "dict.setdefault") [.ref a,u,r]) Q E s:=by
 obtain⟨z,hd,vs,rel,dd⟩:=Bq I.hok e;have hz:vs.length<=sizeLine:=by rw[<- rel.length];exact z
 have hl':(cC kvs k d).length<=sizeLine:=by have:=gL kvs k d;omega
 refine call_meetsIn PySem.F.slot_dict_setdefault dd.typeIs PySem.F.entry_dict_setdefault (PySem.F.args_dict_setdefault_3 _ _ _) (kt_meets_setdefault (cG X.prog X.w) a (rX ry) hd r) ⟨vs,dd,hz,λv hv=>?_,λhn h' dd' hs=>?_⟩
 ·have q:=rel.val k
  rw[hv]at q;cases hvv:cg kvs k with
  |none=>rw[hvv]at q;exact False.elim q
  |some v0=>rw[hvv]at q;exact h1 v0 v _ hvv (I.tok _) q
 ·have q:=rel.val k
  rw[hn]at q;have hvv:cg kvs k=none:=by
   cases hvv:cg kvs k with
   |none=>rfl
   |some v0=>rw[hvv]at q;exact False.elim q
  have he:∃q,h'.get? a=some q:=let ⟨q,_,_,hq,_⟩:=dd';⟨q,hq⟩
  exact h2 hvv _ (oS I (by rw[e];exact True.intro) hs he (wU hl' hd (rel.put k rd) dd'))
end
noncomputable def vK(td ty tx:TE):TE:=λσ H Q=>td σ H λx H1=>∃a,x=.ref a/\Hq H1 a/\ty σ H1 λy H2=>tx σ H2 λz H3=>∃kvs k,H3 a=some (.dK kvs)/\y=kV k/\kvs.length<sizeLine /\
 (∀v,cg kvs k=some v->Q v H3)/\(cg kvs k=none->Q z (ax H3 a (.dK (cC kvs k z))))
section
variable {X:Cx}{o e f:Expr}{apos cpos:Pos}{td ty tx:TE}
theorem pO(ho:PE X o td)(he:PE X e ty)(hf:PE X f tx)(m:M2 X o "setdefault" apos e f cpos):PE X (.Call (.Attribute o "setdefault" apos) [e,f] [] cpos) (vK td ty tx):=by
 intro pins s σ H Q I h;refine wpAny_Call_method m.base m.few m.line PySem.F.plainAttrs_dict PySem.F.slot_dict_setdefault PySem.F.type_dict_setdefault (bZ (ho pins s σ H _ I h) λu s1 ⟨x,H1,I1,rx,a,ex,d,q1⟩=>?_);subst ex;obtain rfl:u=Value.ref a:=rx;obtain⟨t1,t2,_⟩:=Fj I1 d;refine⟨t1,t2,?_⟩;rw[m.trees];refine Calls.callWith_builtin rfl (Calls.evalArgs_plain (Calls.spliced_cons (bZ (he pins s1 σ H1 _ I1 q1) λiv s2 ⟨y,H2,I2,ry,q2⟩=>
  Calls.spliced_cons (bZ (hf pins s2 σ H2 _ I2 q2) λfv s3 ⟨z,H3,I3,rz,kvs,k,hH,ey,hlen,g1,g2⟩=>Calls.spliced_nil ?_))))
 subst ey;exact Dd I3 hH ry rz hlen (λv w' s4 hv I4 rv=>⟨v,H3,I4,rv,g1 v hv⟩) λhn s4 I4=>⟨z,_,I4,rz,g2 hn⟩
end
section
variable {X:Cx}
end
section
variable {K:Type}[DecidableEq K]
noncomputable def gH(σ:List K)(v:K):List K:=if v∈σ then σ else σ++[v]
noncomputable def met(l:List K):List K:=l.foldl gH []
theorem vd(σ:List K)(v k:K):decide (k∈gH σ v)=(decide (k∈σ)||decide (k=v)):=by
 unfold gH
 by_cases h:v∈σ
 ·rw[if_pos h]
  by_cases e:k=v
  ·subst e;simp[h]
  ·simp[e]
 ·rw[if_neg h]
  simp[Kk]
theorem nQ(σ:List K)(v:K):(gH σ v).length=if decide (v∈σ) then σ.length else σ.length+1:=by
 unfold gH
 by_cases h:v∈σ<;>simp[h]
theorem vQ(l:List K)(v:K):met (l++[v])=gH (met l) v:=by unfold met;rw[List.foldl_append];rfl
theorem ym:∀(l σ:List K),(l.foldl gH σ).length<=σ.length+l.length
 | [],σ=>Kv _
 |v::l,σ=>by
  have h:=ym l (gH σ v);have e:=nQ σ v;rw[List.foldl_cons,Ki]
  split at e<;>omega
theorem CJ(n:Nat)(l:List K)(h:l.length=n):(met l).length<=n:=by
 have:=ym l [];rw[<- h];unfold met;simpa using this
end
section
variable {prog:Ld}{w:Lg}{K:Type}[DecidableEq K]{knd:KeyKind prog w K}{A:Lf}{R:Result->Shared->Prop}{I:Addr}{fp wr:La}{G:Array GenState->Array GenState->Prop}{n:Nat}{P:Nat->Value->Prop}{St:Nat->Shared->Prop}
theorem En(W:WalksS prog w A.in1 I fp wr G n P St)(S:Addr)(hSf:S∉fp)(l:List K)(hl:l.length=n)
  (hval:∀i v,P i v->∃k,l[i]?=some k/\knd.is k v=true/\v.scannable=true) (hb:n+1<scanBound) :
  ∀(k i:Nat) (s:K8),n-i=k->i<=n->St i s ->
   s.heap.SetOf knd S (λk'=>decide (k'∈met (l.take i))) (met (l.take i)).length ->
   (∀s',Moved (S::wr) G s s'->s'.heap.SetOf knd S (λk'=>decide (k'∈met l)) (met l).length->R (.ok (.ret .none)) s') ->
   codeAny (model prog w) A (.builtin "set.update.loop" ⟨[.ref S,.ref I],[]⟩) R s:=by
 have hSw:S∉wr:=λh=>hSf (W.sub _ h);have hsub:∀b∈wr,b∈S::wr:=λb hb=>Kn _ hb;intro k
 induction k with
 |zero=>
  intro i s hk hi hst hS hR;have hin:i=n:=by omega
  subst hin;rw[<- hl,KL]at hS;refine codeAny_builtin F.entry_set_update_loop ?_;rw[Around.under_plainId F.plain_set_update_loop _];show wpAny _ A.in1 (pyNext (.ref I) >>= _) _ _ s;refine wpAny_bind (W.done s _ _ hst λs' hm=>?_);show wpAny _ A.in1 (ret Value.none) _ _ s';refine wpAny_pure (hR s' (hm.mono hsub) ?_);obtain⟨o,es,ep,t,ho,cB⟩:=hS;exact⟨o,es,ep,t,hm.heap S _ hSw ho,cB⟩
 |succ k ih=>
  intro i s hk hi hst hS hR;have hlt:i<n:=by omega
  refine codeAny_builtin F.entry_set_update_loop ?_;rw[Around.under_plainId F.plain_set_update_loop _];show wpAny _ A.in1 (pyNext (.ref I) >>= _) _ _ s;refine wpAny_bind (W.item i s _ _ hlt hst λv s' hP hst' hm=>?_);obtain⟨key,hkey,his,hsc⟩:=hval i v hP;have hS':s'.heap.SetOf knd S (λk'=>decide (k'∈met (l.take i))) (met (l.take i)).length:=by
   obtain⟨o,es,ep,tb,ho,cB⟩:=hS;exact⟨o,es,ep,tb,hm.heap S _ hSw ho,cB⟩
  show wpAny _ A.in1 (holding [v] (setAdd S v) >>= _) _ _ s';refine wpAny_bind (wpAny_holding ?_);unfold setAdd;refine wpAny_holding ?_;refine wpAny_bind (knd.pyHash (k:=key) his ?_);have hroom:(met (l.take i)).length+1<scanBound:=by have:=CJ i (l.take i) (by rw[KM];omega);omega
  refine wpAny_setAddHashed_of (knd:=knd) (s:={s' with toks:=s'.toks+1}) his hsc hS' hroom λh' hsb hS2=>?_;have ht:l.take (i+1)=l.take i++[key]:=by rw[List.take_add_one,hkey];rfl
  have hSi:h'.SetOf knd S (λk'=>decide (k'∈met (l.take (i+1)))) (met (l.take (i+1))).length:=
   SetOf_congr hS2 (λk'=>by rw[ht,vQ,vd]) (by rw[ht,vQ,nQ])
  refine wpAny_pure ⟨plainId_quiet F.plain_set_update_loop _,ih (i+1) _ ⋯ hlt (W.frame _ s' _ _ hst' (Nat.le_succ _) λb hb o e=>?_) hSi λs'' hm'' hS''=>?_⟩
  ·rw[hsb.2 b (λh:b=S=>hSf (by rw[<- h];exact hb))];exact e
  ·refine hR s'' (Moved.trans W.gtrans ((hm.mono hsub).then_heap (Nat.le_succ _) λb o hb e=>?_) hm'') hS''
   rw[hsb.2 b (λh:b=S=>hb (by rw[h];exact List.mem_cons_self))];exact e
end
noncomputable def du(z:Str):List Str:=z.cps.toList.map λc=>(⟨#[c]⟩:Str)
section
variable {prog:Ld}{w:Lg}{A:Lf}{E:K4}{s:K8}
set_option maxHeartbeats 3200000 in
theorem rp{x:Str}{t:Tok}{Q:K4}(hh:A.handled=none)(hb:x.cps.size+1<scanBound)
  (h:∀(h':Heap) (tk:Nat),h'.SetOf (strKind prog w) s.heap.objs.size (λk'=>decide (k'∈met (du x))) (met (du x)).length ->
   (∀b o,s.heap.get? b=some o->h'.get? b=some o)->Q (.ref s.heap.objs.size) {s with heap:=h',toks:=tk}) :
  wpAny (model prog w) A (call (.type "set") [.str x t]) Q E s:=by
 obtain⟨c,tl,hmro⟩:=PySem.F.called_set.mro;have hmade:=PySem.F.called_set.made;have hsub:=PySem.F.called_set.sub;refine wpAny_call (codeAny_of_tree ?_);show wpAny _ _ (callAny (.type "set") _) _ _ _;refine wpAny_pure ⟨Code.quiet_builtin _ (by decide +kernel),codeAny_builtin PySem.F.entry_type_call ?_⟩;rw[Around.under_plain (weight_type_call_type "set" [.str x t] []) rfl];have h1:=PySem.F.called_set.notType;have h2:=PySem.F.called_set.canCreate;have hct:=PySem.F.typeCall_set_1 (.str x t)
 repeat (any_goals (first | assumption | wp_step))
 refine codeAny_mono (code_set_new_1 (.str x t) (E:=E) (Q₁:=λobj s₁=>∃led:Bool,obj=.ref s.heap.objs.size/\s₁={s with heap:=s.heap.push {cls:=.type "set",dict:=none,data:=.set #[] 0 (.fresh 0 0 led)} }) λled=>⟨led,rfl,rfl⟩) λr s₁ hr=>?_;cases r with
 |error e=>exact hr
 |ok fl=>
  cases fl with
  |ret obj=>
   obtain⟨led,rfl,rfl⟩:=hr;have hS:(s.heap.push {cls:=.type "set",dict:=none,data:=.set #[] 0 (.fresh 0 0 led)}).get? s.heap.objs.size=some {cls:=.type "set",dict:=none,data:=.set #[] 0 (.fresh 0 0 led)}:=Kd _ rfl;have hT:Shared.TypeIs {s with heap:=s.heap.push {cls:=.type "set",dict:=none,data:=.set #[] 0 (.fresh 0 0 led)} } (.ref s.heap.objs.size) "set":=⟨_,hS,rfl⟩;have hli:=PySem.F.called_set.init.lookup;have hbi:=PySem.F.called_set.init.bind (.ref s.heap.objs.size)
   repeat (any_goals (first | assumption | wp_step))
   refine codeAny_mono (codeAny_call_builtin (R:=wants (λr s₂=>r=.none/\∃h' tk,s₂={s with heap:=h',toks:=tk} /\
     h'.SetOf (strKind prog w) s.heap.objs.size (λk'=>decide (k'∈met (du x))) (met (du x)).length /\
     (∀b o,s.heap.get? b=some o->h'.get? b=some o)) E) PySem.F.called_set.init.plain PySem.F.entry_set_init (check_set_init_1 hT ?_)) λr₂ s₂ hr₂=>?_
   ·have hsls:=PySem.F.sub_str_set
    have hslf:=PySem.F.sub_str_frozenset;have hne:(Value.type "str" == Value.type "dict")=false:=by decide
    unfold Builtin.«set.__init__» noKeywords Builtin.Frozenset.updateFrom;generalize hPI:pyIter=PI
    wp_walk
    subst hPI;refine wpAny_pyIter_str λo St W hst=>?_;refine wpAny_bind (wpAny_runValue ?_);have hSf:s.heap.objs.size∉[(s.heap.push {cls:=.type "set",dict:=none,data:=.set #[] 0 (.fresh 0 0 led)}).objs.size]:=by
     rw[Heap.size_push];simp only[J']
     exact Kr (KG _)
    refine En (knd:=strKind prog w) ((W _ (by simp[hh])).toS) s.heap.objs.size hSf (du x) (by simp[du])
     (λi v ⟨c,u,hc,hv⟩=>⟨⟨#[c]⟩,by unfold du;rw[Ka,Array.getElem?_toList,hc];rfl,by rw[hv];exact strKind_is _ _ _ _,by rw[hv];rfl⟩) hb (x.cps.size-0) 0 _ ⋯ (Kw _) hst ?hS0 ?hR
    case hS0=>
     exact SetOf_congr ((setObjOf_fresh (knd:=strKind prog w) led).setOf (J9 _ hS) (by unfold scanBound;omega)) (λ_=>rfl) rfl
    case hR=>
     intro s' hm hS';obtain⟨h',g',d',tk',os'⟩:=s';have eg:g'=s.gens:=hm.gens;have ed:d'=s.drawn:=hm.drawn;have eo:os'=s.os:=hm.os;subst eg;subst ed;subst eo
     show wpAny _ _ _ _ _ _;refine wpAny_pure ?_;show wpAny _ _ (ret Value.none) _ _ _;refine wpAny_pure ⟨rfl,h',tk',rfl,hS',λb o' e=>?_⟩;have hb:=Ky e;refine hm.heap b o' ?_ (J9 _ (J9 _ e));simp only[Km,List.not_mem_nil,or_false,not_or,Heap.size_push];exact⟨Kr hb,Kr (Nat.lt_succ_of_lt hb)⟩
   ·cases r₂ with
    |error e=>exact hr₂
    |ok fl₂=>
     cases fl₂ with
     |ret r=>
      obtain⟨rfl,h',tk,rfl,hS',hk'⟩:=hr₂
      repeat (any_goals (first | assumption | wp_step))
      exact h _ _ hS' hk'
     |_=>exact hr₂.elim
  |_=>exact hr.elim
end
noncomputable def uH(t:TE):TE:=λσ H Q=>t σ H λx H1=>∃z,x=.str z/\z.cps.size+1<scanBound/\Q (.int (met (du z)).length) H1
section
variable {X:Cx}{e:Expr}{t:TE}{p p2 pos pos2:Pos}
theorem Ab(hc:X.calm=true)(ha:PE X e t)(g1:Gl X "len")(m1:X.mg "len"=none)(g2:Gl X "set")(m2:X.mg "set"=none)
  (he1:autoParam (starEach [.Call (.Name "set" p2) [e] [] pos2] X.env=[(false,eval (.Call (.Name "set" p2) [e] [] pos2) X.env)]) zz0._auto_1)
  (he2:autoParam (starEach [e] X.env=[(false,eval e X.env)]) zz0._auto_1) :
  PE X (.Call (.Name "len" p) [.Call (.Name "set" p2) [e] [] pos2] [] pos) (uH t):=by
 intro pins s σ H Q I h;have hl:bootBuiltins "len"=some (.builtin "len"):=by decide +kernel
 have hs:bootBuiltins "set"=some (.type "set"):=by decide +kernel
 refine wpAny_Call_Name_kw (e_ I g1 m1 hl ?_);refine PyProof.Rows.callWith_builtin1 ?_ he1 rfl;rw[he1];show wpAny _ _ (spliced [(false,eval (.Call (.Name "set" p2) [e] [] pos2) X.env)]) _ _ _;refine Calls.spliced_cons ?_;refine wpAny_Call_Name_kw (e_ (I.tok _) g2 m2 hs ?_);refine PyProof.Rows.callWith_type1 ?_ he2 rfl;rw[he2];show wpAny _ _ (spliced [(false,eval e X.env)]) _ _ _;refine Calls.spliced_cons (bZ (ha pins _ σ H _ (I.tok _) h) λu s1 ⟨x,H1,I1,rx,z,ex,hz,q⟩=>Calls.spliced_nil ?_);subst ex;obtain⟨tk,rfl⟩:=rx;refine rp (I.ok.hd hc) hz λh' tk' hS hk=>Calls.spliced_nil ?_;obtain⟨o,ho,hex,es,ep,tb,hd,_,_,hn,hf⟩:=hS.objOf;have hle:=CJ z.cps.size (du z) (by simp[du]);have hb:z.cps.size<4096:=by unfold scanBound at hz;omega
 refine call_len_set ho hex hd hf (by rw[hn];have:((4096:Nat):Int)<2^63:=nofun;omega) ?_;rw[hn];exact⟨.int _,H1,(I1.kept (t':=_) hk),⟨_,rfl⟩,q⟩
end
noncomputable abbrev NT:=List (Str×Addr×List Nat)
noncomputable def ww(t:NT):List (cS×V):=t.map λx=>(Sum.inr x.1,V.ref x.2.1)
noncomputable def wy(ns:K7):List V:=ns.map fun(n:Nat)=>V.int (n:Int)
structure cX(H:Hp)(p:Addr)(t:NT):Prop where
 dict:H p=some (.dK (ww t))
 list:∀x∈t,H x.2.1=some (.lst (wy x.2.2))
 apart:(t.map (·.2.1)).Nodup
theorem cX.grow{H H':Hp}{p:Addr}{t:NT}(N:cX H p t)(k:∀a o,H a=some o->H' a=some o):cX H' p t:=⟨k _ _ N.dict,λx hx=>k _ _ (N.list x hx),N.apart⟩
theorem wH(z:Str):∀t:NT,cg (ww t) (.inr z)=(t.find? λx=>decide (x.1=z)).map λx=>V.ref x.2.1
 | []=>rfl
 |x::t=>by
  have ih:=wH z t;unfold ww at ih ⊢;rw[KC,List.find?_cons]
  by_cases e:x.1=z
  ·rw[cP (by rw[e])];simp[e]
  ·rw[cO (λh=>e (Sum.inr.inj h)),ih];simp[e]
theorem cX.new{H:Hp}{p l:Addr}{t:NT}{z:Str}(N:cX H p t)(hl:H l=none)(hz:cg (ww t) (.inr z)=none) :
  cX (ax (ax H l (.lst [])) p (.dK (cC (ww t) (.inr z) (.ref l)))) p (t++[(z,l,[])]):=by
 have hpl:p≠l:=λe=>by have:=N.dict;rw[e,hl]at this;exact nomatch this
 have hx:∀x∈t,x.2.1≠l/\x.2.1≠p:=λx hx=>by
  have q:=N.list x hx
  constructor
  ·intro e;rw[e,hl]at q;exact nomatch q
  ·intro e;rw[e,N.dict]at q;exact nomatch q
 refine⟨?_,λx h=>?_,?_⟩
 ·rw[ac,pV _ hz];unfold ww;rw[Kj];rfl
 ·rcases Kk.mp h with h | h
  ·rw[ao (hx x h).2,ao (hx x h).1];exact N.list x h
  ·rw[J'.mp h,ao (Ne.symm hpl),ac];rfl
 ·rw[Kj]
  refine List.nodup_append.mpr ⟨N.apart,by simp,λa ha b hb=>?_⟩;obtain⟨x,h1,rfl⟩:=KQ.mp ha;rw[List.map_singleton]at hb;rw[J'.mp hb];exact(hx x h1).1
theorem cX.put{H:Hp}{p:Addr}{t:NT}{i k:Nat}{x:Str×Addr×List Nat}(N:cX H p t)(hi:t[i]?=some x) :
  cX (ax H x.2.1 (.lst (wy (x.2.2++[k])))) p (t.set i (x.1,x.2.1,x.2.2++[k])):=by
 have hm:x∈t:=Kb hi;have hp:p≠x.2.1:=λe=>by have:=N.list x hm;rw[<- e,N.dict]at this;exact nomatch this
 have hlt:i<t.length:=(J8.mp hi).1;have hk:ww (t.set i (x.1,x.2.1,x.2.2++[k]))=ww t:=by
  unfold ww;apply List.ext_getElem?;intro j;rw[Ka,Ka,List.getElem?_set]
  by_cases e:i=j
  ·subst e;rw[if_pos rfl,if_pos hlt,hi];rfl
  ·rw[if_neg e]
 have ha:(t.set i (x.1,x.2.1,x.2.2++[k])).map (·.2.1)=t.map (·.2.1):=by
  apply List.ext_getElem?;intro j;rw[Ka,Ka,List.getElem?_set]
  by_cases e:i=j
  ·subst e;rw[if_pos rfl,if_pos hlt,hi];rfl
  ·rw[if_neg e]
 refine⟨by rw[ao hp,hk];exact N.dict,λy hy=>?_,by rw[ha];exact N.apart⟩;obtain⟨j,hj⟩:=List.mem_iff_getElem?.mp hy;rw[List.getElem?_set]at hj
 by_cases e:i=j
 ·rw[if_pos e,if_pos hlt]at hj
  cases hj;exact ac
 ·rw[if_neg e]at hj
  have hne:y.2.1≠x.2.1:=by
   intro q;have h1:(t.map (·.2.1))[i]?=some x.2.1:=by rw[Ka,hi];rfl
   have h2:(t.map (·.2.1))[j]?=some x.2.1:=by rw[Ka,hj];simp[q]
   exact e ((List.getElem?_inj (J8.mp h1).1 N.apart).mp (h1.trans h2.symm))
  rw[ao hne];exact N.list y (Kb hj)
noncomputable def jY(t:NT):List (Str×List Nat):=t.map λx=>(x.1,x.2.2)
noncomputable def bW(m:List (Str×List Nat))(z:Str):List (Str×List Nat):=if z∈m.map (·.1) then m else m++[(z,[])]
theorem BR{t:NT}{z:Str}{v:V}(h:cg (ww t) (.inr z)=some v):∃(i:Nat) (x:Str×Addr×List Nat),t[i]?=some x/\x.1=z/\v=.ref x.2.1:=by
 rw[wH]at h;cases hf:t.find? (λx=>decide (x.1=z)) with
 |none=>rw[hf]at h;exact nomatch h
 |some x=>
  rw[hf]at h;have hv:V.ref x.2.1=v:=Option.some.inj h;obtain⟨i,hi⟩:=List.mem_iff_getElem?.mp (List.mem_of_find?_eq_some hf);have hz:=List.find?_some hf;exact⟨i,x,hi,of_decide_eq_true hz,hv.symm⟩
theorem yJ(t:NT):(jY t).map (·.1)=t.map (·.1):=by unfold jY;rw[Kl];rfl
theorem Fh{t:NT}{z:Str}(h:cg (ww t) (.inr z)=none):¬ z∈(jY t).map (·.1):=by
 intro m;rw[yJ]at m;obtain⟨x,hx,e⟩:=KQ.mp m;refine u8 h (KQ.mpr ⟨(.inr x.1,.ref x.2.1),KQ.mpr ⟨x,hx,rfl⟩,?_⟩);show(Sum.inr x.1:cS)=Sum.inr z;rw[e]
theorem cX.setdef{H:Hp}{p l:Addr}{t:NT}{z:Str}{Q:VK}(N:cX H p t)(hl:H l=none)(hn:t.length<sizeLine)
  (h:∀(H':Hp) (t':NT) (i:Nat) (x:Str×Addr×List Nat),cX H' p t'->t'[i]?=some x->x.1=z->jY t'=bW (jY t) z->(∀y∈t',y∈t\/y.2.1=l)->(∀a o,a≠p->H a=some o->H' a=some o)->Q (.ref x.2.1) H') :
  ∃kvs k,ax H l (.lst []) p=some (.dK kvs)/\V.str z=kV k/\kvs.length<sizeLine/\(∀v,cg kvs k=some v->Q v (ax H l (.lst []))) /\
   (cg kvs k=none->Q (.ref l) (ax (ax H l (.lst [])) p (.dK (cC kvs k (.ref l))))):=by
 have hpl:p≠l:=λe=>by have:=N.dict;rw[e,hl]at this;exact nomatch this
 have gr:∀a o,H a=some o->ax H l (.lst []) a=some o:=λa o e=>by
  rw[ao (λq=>by rw[q,hl]at e;exact nomatch e)];exact e
 refine⟨ww t,.inr z,gr _ _ N.dict,rfl,by unfold ww;rw[J_];exact hn,λv hv=>?_,λhz=>?_⟩
 ·obtain⟨i,x,hi,hx,rfl⟩:=BR hv
  refine h _ t i x (N.grow gr) hi hx ?_ (λy hy=>.inl hy) λa o _ e=>gr a o e;have hm:z∈(jY t).map (·.1):=by rw[yJ];exact KQ.mpr ⟨x,Kb hi,hx⟩
  unfold bW;rw[if_pos hm]
 ·refine h _ (t++[(z,l,[])]) t.length (z,l,[]) (N.new hl hz) (by simp) rfl ?_ (λy hy=>(Kk.mp hy).imp id λq=>by rw[J'.mp q]) λa o ha e=>by rw[ao ha];exact gr a o e
  unfold bW;rw[if_neg (Fh hz)];unfold jY;rw[Kj];rfl
theorem DZ{t:NT}{i:Nat}{x:Str×Addr×List Nat}(k:Nat):jY (t.set i (x.1,x.2.1,x.2.2++[k]))=(jY t).set i (x.1,x.2.2++[k]):=by
 unfold jY;rw[List.map_set]
theorem mH{m:List (Str×List Nat)}{z:Str}(h:(m.map (·.1)).Nodup):((bW m z).map (·.1)).Nodup:=by
 unfold bW
 by_cases e:z∈m.map (·.1)
 ·rw[if_pos e];exact h
 ·rw[if_neg e,Kj]
  refine List.nodup_append.mpr ⟨h,by simp,λa ha b hb=>?_⟩;rw[List.map_singleton]at hb;rw[J'.mp hb];exact λq=>e ((show a=z from q)▸ha)
section
variable {X:Cx}{K:K5}{tg:Expr}
end
end L2
namespace QL
open PySem PySem.Spec PyProof.Rows
theorem FJ:bootBuiltins "max"=some (.builtin "max"):=by decide +kernel
theorem FG:bootBuiltins "min"=some (.builtin "min"):=by decide +kernel
end QL
namespace L2
open PySem PySem.Spec PyProof.Rows
section
variable {X:Cx}{CX:k8}{k:Nat}{C:Addr}{ps:Le}{sp:Sp}{x:Str}{p pos:Pos}{e:Expr}{es:Li}{t:TA}
end
section
variable {X:Cx}{e:Expr}{tx:TX}{i:Nat}{n x:Str}{D:Addr}{bmD:K9}{nD:String}{b₀:Stmt}{suite:List Stmt}{epos pos hpos np:Pos}{ts:Addr->TS}
end
section
variable {X:Cx}{CX:k8}{k:Nat}{C:Addr}{ps:Le}{sp:Sp}{m:Str}{pos apos:Pos}{e o:Expr}{es:Li}{t:TA}{ta:TE}
end
section
variable {X:Cx}
end
end L2
namespace CtM
open PySem PySem.Builtin PySem.Builtin.Str QL SpM
theorem o9(c:Nat):∀(x:K7) (rows:List (List Nat)),rows≠[]->(x.foldl (SpM.step c) rows).length=rows.length+x.count c
 | [],rows,_=>by simp
 |d::x,rows,h=>by
  have h1:SpM.step c rows d≠[]:=by unfold SpM.step;split<;>simp
  rw[List.foldl_cons,o9 c x _ h1,List.count_cons];unfold SpM.step
  by_cases e:d=c
  ·rw[if_pos e];subst e;simp;omega
  ·rw[if_neg e]
   have:0<rows.length:=List.length_pos_iff.mpr h;simp[e];omega
end CtM
namespace L2
open PySem PySem.Spec PyProof.Rows QL
section
variable {K:K5}{g:TG}{ti:TT}{te:TE}{σ:St}{H:Hp}{Q:List V->Hp->Prop}{α:Type}
theorem yZ{as:List α}{f:α->Option V}{i:Nat}{x:α}(hx:as[i]?=some x):(as.take (i+1)).filterMap f=(as.take i).filterMap f++(f x).toList:=by
 rw[List.take_add_one,hx,List.filterMap_append];show _++List.filterMap f [x]=_;cases h:f x<;>simp[h]
theorem EV{as:List α}{f:α->Option V}(i:Nat):((as.take i).filterMap f).length<=as.length:=KD (List.length_filterMap_le _ _) (by rw[KM];omega)
theorem j9{as:List α}(f:α->V):as.filterMap (λx=>some (f x))=as.map f:=by induction as with | nil=>rfl | cons x xs ih=>simp
theorem gq{a:Addr}{as:List α}{emb:α->V}{f:α->Option V}(S:St->Prop)(h0:S σ)(hl:∀H',az H H'->aS K H' a (as.map emb))(hn:as.length<=1000000)
  (hs:∀(i:Nat) x,as[i]?=some x->∀σ H' (N1:V->St->Hp->Prop) (N0:St->Hp->Prop),S σ->az H H'->(∀v σ2 H2,f x=some v->az H H2->S σ2->N1 v σ2 H2)->(∀σ2 H2,f x=none->az H H2->S σ2->N0 σ2 H2) ->
   g (emb x) σ H' λσ2 H3=>ti σ2 H3 λb H4=>if b=true then te σ2 H4 λv H5=>N1 v σ2 H5 else N0 σ2 H4)
  (he:∀H',az H H'->Q (as.filterMap f) H'):i9 (DF K a) g ti te σ H Q:=by
 refine nj (xs:=as.map emb) (λi acc σ H'=>az H H'/\acc=(as.take i).filterMap f/\i<=as.length/\S σ) ⟨λ_ _ e=>e,rfl,Kw _,h0⟩ ?_ ?_ ?_ ?_ ?_
 ·rintro i acc σ H' ⟨_,rfl,_⟩
  have:=EV (as:=as) (f:=f) i;exact bf ⋯
 ·rintro i acc σ H' ⟨_,_,h,_⟩
  rw[J_];exact h
 ·rintro i acc σ H' ⟨sm,_⟩
  exact hl _ sm
 ·rintro i x acc σ H' hx ⟨sm,rfl,hi,hS⟩
  have hlt:i<as.length:=by have:=(J8.mp hx).1;rwa [J_]at this
  rw[Ka,J7 hlt]at hx;cases hx;have hg:as[i]?=some as[i]:=J7 hlt;refine hs i as[i] hg σ H' (λv σ2 H5=>_) (λσ2 H4=>_) hS sm (λv σ2 H2 hf s2 hS2=>⟨s2,?_,hlt,hS2⟩) (λσ2 H2 hf s2 hS2=>⟨s2,?_,hlt,hS2⟩)
  ·rw[yZ hg,hf];rfl
  ·rw[yZ hg,hf];simp
 ·rintro acc σ H' ⟨sm,rfl,_⟩
  have e:(as.take (as.map emb).length).filterMap f=as.filterMap f:=by rw[J_,KL]
  rw[e];exact he _ sm
theorem n_{n:Nat}{f:Nat->Option V}(S:St->Prop)(h0:S σ)(hn:n<=1000000)
  (hs:∀i,i<n->∀σ H' (N1:V->St->Hp->Prop) (N0:St->Hp->Prop),S σ->az H H'->(∀v σ2 H2,f i=some v->az H H2->S σ2->N1 v σ2 H2)->(∀σ2 H2,f i=none->az H H2->S σ2->N0 σ2 H2) ->
   g (.int (0+(i:Int))) σ H' λσ2 H3=>ti σ2 H3 λb H4=>if b=true then te σ2 H4 λv H5=>N1 v σ2 H5 else N0 σ2 H4)
  (he:∀H',az H H'->Q ((List.range n).filterMap f) H'):i9 (Bm 0 n) g ti te σ H Q:=by
 refine fh (lo:=0) (n:=n) (λi acc σ H'=>az H H'/\acc=(List.range i).filterMap f/\i<=n/\S σ) ⟨λ_ _ e=>e,rfl,Kw _,h0⟩ ?_ ?_ ?_ ?_
 ·rintro i acc σ H' ⟨_,rfl,hi,_⟩
  have:=List.length_filterMap_le f (List.range i);rw[List.length_range]at this;exact bf ⋯
 ·rintro i acc σ H' ⟨_,_,h,_⟩
  exact h
 ·rintro i acc σ H' hi ⟨sm,rfl,_,hS⟩
  refine hs i hi σ H' (λv σ2 H5=>_) (λσ2 H4=>_) hS sm (λv σ2 H2 hf s2 hS2=>⟨s2,?_,hi,hS2⟩) (λσ2 H2 hf s2 hS2=>⟨s2,?_,hi,hS2⟩)
  ·rw[List.range_succ,List.filterMap_append];simp[hf]
  ·rw[List.range_succ,List.filterMap_append];simp[hf]
 ·rintro acc σ H' ⟨sm,rfl,_⟩
  exact he _ sm
end
section
variable {X:Cx}
end
end L2
namespace ThM
open PySem L2
noncomputable def c_(ks:Le)(z:Str):List Str:=if z∈ks then ks else ks++[z]
theorem mem_addNew{ks:Le}{z y:Str}:y∈c_ ks z↔y∈ks\/y=z:=by
 unfold c_
 split
 ·rename_i h
  exact⟨.inl,λq=>q.elim id λe=>e▸h⟩
 ·rw[Kk,J']
section
variable {α:Type}(f:List α->List α)
noncomputable def Hd:Nat->List α->List α
 |0,s=>s
 |n+1,s=>f (Hd n s)
variable {f}
end
noncomputable abbrev NR:=Str×List Str
noncomputable def DP(ks:Le)(r:NR):List Str:=if(∀z∈r.2,z∈ks) then c_ ks r.1 else ks
noncomputable def By(rs:List NR)(ks:Le):List Str:=rs.foldl DP ks
theorem nd_len{ks ms:Le}(hn:ks.Nodup)(h:∀z∈ks,z∈ms):ks.length<=ms.length:=by
 induction ks generalizing ms with
 |nil=>exact Kw _
 |cons k ks ih=>
  rw[List.nodup_cons]at hn;have hk:=h k List.mem_cons_self;have h1:=ih (ms:=ms.erase k) hn.2 λz hz=>by
   have hne:z≠k:=λe=>hn.1 (e▸hz);exact(List.mem_erase_of_ne hne).mpr (h z (Kn _ hz))
  have h2:=List.length_erase_of_mem hk;have h3:=List.length_pos_of_mem hk;rw[Ki];omega
noncomputable def E5(rs:List NR):List Str:=Hd (By rs) rs.length []
end ThM
namespace L2
open PySem PySem.Spec PyProof.Rows QL
section
variable {X:Cx}
end
end L2
namespace ThM
open PySem L2
section
variable {α:Type}{f:List α->List α}(μ:List α->Nat)
end
theorem lY{y:Str}:∀(zs ks:Le),y∈zs.foldl c_ ks↔y∈ks\/y∈zs
 | [],ks=>by simp
 |z::zs,ks=>by
  rw[List.foldl_cons,lY zs,mem_addNew,Km];exact⟨λh=>h.elim (λh=>h.elim .inl λe=>.inr (.inl e)) λh=>.inr (.inr h),λh=>h.elim (λh=>.inl (.inl h)) λh=>h.elim (λe=>.inl (.inr e)) .inr⟩
noncomputable def Dz(ks:Le)(r:NR):List Str:=if r.1∈ks then r.2.foldl c_ ks else ks
noncomputable def Ax(rs:List NR)(ks:Le):List Str:=rs.foldl Dz ks
noncomputable def F9(ks:Le)(r:NR):Prop:=r.1∈ks/\∀z∈r.2,z∈ks
instance (ks:Le)(r:NR):Decidable (F9 ks r):=by unfold F9;infer_instance
noncomputable def FA(st:Str)(rs:List NR):List Str:=Hd (Ax rs) rs.length [st]
noncomputable def EH(rs:List NR)(r:NR):Bool:=decide (∀z∈r.2,z∈E5 rs)
noncomputable def GR(rs:List NR):List NR:=rs.filter (EH rs)
noncomputable def GT(st:Str)(rs:List NR):List Str:=FA st (GR rs)
noncomputable def keep(st:Str)(rs:List NR)(r:NR):Bool:=decide (r.1∈GT st rs)&&EH rs r
end ThM
namespace L2
open PySem PySem.Spec PyProof.Rows
section
variable {X:Cx}{body:List Stmt}{h₀:ExceptHandler}{hs:List ExceptHandler}{tb:TS}{pos:Pos}
theorem u6(hb:wx X.nox body tb):PS X (.Try body (h₀::hs) [] [] pos) tb:=by
 intro pins s σ H De I h;refine wpAny_Try_except ?_;refine wpAny_mono (hb pins s σ H De (I.wish _) h) (λfl s1 q=>?_) λ_ _ f=>f.elim;have q':=SP.unwish q;cases fl with
 |next=>exact wpAny_execs_nil q'
 |brk=>exact q'
 |cont=>exact q'
 |ret u=>exact q'
theorem yF{e:Expr}{ta:TE}{f:Str}{K:K5}(hK:X.K=K)(he:PE X e ta)(hb:attributeBase e f X.env (eval e X.env)=eval e X.env):PE X (.Attribute e f pos) (Ef K ta f):=hK▸bA he hb
noncomputable def jV(xs ys:List V):Bool:=(List.range (min xs.length ys.length)).all (λj=>match xs[j]?,ys[j]? with | some x,some y=>qd x y | _,_=>true)&&xs.length==ys.length
noncomputable def Fr(K:K5):R2:=λx y H Q=>∃a b xs ys,x=.ref a/\y=.ref b/\bh K H a xs/\bh K H b ys/\xs.all ja=true/\ys.all ja=true/\Q (.bl (jV xs ys)) H
theorem BQ(hu:X.A.units+64<cLine):bd X (compareOp .Eq) (Fr X.K):=by
 intro pins s σ H x y v u Q I rx ry h;obtain⟨a,b,xs,ys,rfl,rfl,ha,hb,fx,fy,q⟩:=h;cases rx;cases ry
 obtain⟨its,ra,pa,_⟩:=I.tuple ha;obtain⟨its2,rb,pb,_⟩:=I.tuple hb;have l1:=ra.length;have l2:=rb.length
 have q':=SeqAt.RcAt.tuples (A:=X.A) (s:=s) (e:=λj=>match xs[j]?,ys[j]? with | some x,some y=>qd x y | _,_=>true) (show s.heap.IsTuple a its.toArray from pa) (show s.heap.IsTuple b its2.toArray from pb) ⋯ (λj g1 g2=>by
  have g1':j<its.length:=by simpa using g1
  have g2':j<its2.length:=by simpa using g2
  have x1:xs[j]?=some xs[j]:=J7 ⋯;have y1:ys[j]?=some ys[j]:=J7 ⋯;obtain⟨w1,f1,rr1⟩:=ra.get x1;obtain⟨w2,f2,rr2⟩:=rb.get y1;rw[J7 g1']at f1;rw[J7 g2']at f2;cases f1;cases f2
  simp only[KU,x1,y1];exact gj rr1 rr2 (KR.mp fx _ (Kb x1)) (KR.mp fy _ (Kb y1)))
 refine q' _ _ _ _ ⟨.bl _,H,I,rfl,?_⟩;rw[Ke,Ke,<- l1,<- l2];exact q
end
section
variable {X:Cx}{es:Li}{t:TA}{te:TE}
structure WA(X:Cx)(es:Li)(t:TA):Prop where
 out:PA X es t
structure WE(X:Cx)(e:Expr)(t:TE):Prop where
 out:PE X e t
structure WB(X:Cx)(b:List Stmt)(t:TS):Prop where
 out:wx X b t
structure WS(X:Cx)(s:Stmt)(t:TS):Prop where
 out:PS X s t
end
end L2
namespace L2
open PySem PySem.Spec PyProof.Rows QL
section
variable {X:Cx}
end
end L2
namespace PySem
open PySem.Calls PyProof.Rows
section
variable {prog:Ld}{w:Lg}{A:Lf}{E:K4}{env:Env}
variable {nm q:Str}{C N:Addr}{bs bm:K9}{hdct:Bool}{sn:Le}{sub:K9}{ab:Bool}{col:Option Bool}{dd:Lh}{k0 k1 k2 k3 k5:Option Value}{newId:String}
variable {bmB bmN:K9}{B Bn nid initId inN:String}{K:K5}
end
section
variable {cp:Value->Prop}{M:Model}{A:Lf}{E:K4}{s:K8}{base:Heap}{env:Env}{outer:List Env}{L e:Addr}{Q:Unit->Shared->Prop}
end
end PySem
namespace L2
open PySem PySem.Spec PyProof.Rows
section
variable {P:Ld}{w:Lg}{K:K5}{mg:Lb}{base:Heap}{N:Le}{qual:Str}{scope:Scope}{f:Addr}{cd:Value}{A:Lf}{outer:List Env}{s:K8}{H:Hp}{E E1:XK}{CX:k8}
end
section
variable {X:Cx}{e e₀:Expr}{cB:Li}{tx:TX}{t:TA}{x y:Str}{C D:Addr}{bmD:K9}{nD:String}{rpos pos pos2 hpos np np2 cpos npos:Pos}{kd:Nat}{E:XK}
end
end L2
namespace PySem
open PySem.Calls PyProof.Rows
section
variable {prog:Ld}{w:Lg}{A:Lf}{E:K4}{env:Env}
variable {nm q:Str}{C N:Addr}{bs bm bmB bmN:K9}{hdct:Bool}{sn:Le}{sub:K9}{ab:Bool}{col:Option Bool}{dd:Lh}{k0 k1 k2 k3 k5:Option Value}{newId B Bn nid initId inN:String}{K:K5}
end
end PySem
namespace L2
open PySem PySem.Spec PyProof.Rows
section
variable {P:Ld}{w:Lg}{K:K5}{mg:Lb}{base:Heap}{N:Le}{qual:Str}{scope:Scope}{f:Addr}{cd:Value}{A:Lf}{outer:List Env}{s:K8}{H:Hp}{E E1:XK}
end
structure Gp(k:Nat)(A:Lf):Prop where
 dp:A.depth+3*k+5<recursionLimit
 un:A.units+16*k+200<cLine
structure Gv(P:Ld)(w:Lg)(K:K5)(mg:Lb)(base:Heap)(CX:k8)(k:Nat)(f:Addr)(fd:Lc)(ps:Le)(sp:Sp):Prop where
 len:∀vs H Q E,sp vs H Q E->vs.length=ps.length
 run:∀(A:Lf) (outer:List Env) (s:K8) (H:Hp) (args:Args) (us:K9) (vs:List V) (Q:VK) (E:XK),Gp k A->vb P w K mg base A outer s H->BindsTo s fd args (ps.zip us)->bg vs us->sp vs H Q E ->
  codeAny (model P w) A (.call (.ref f) args) (CR CX outer P w H s Q E) s
structure J4(P:Ld)(w:Lg)(K:K5)(mg:Lb)(base:Heap)(k:Nat)(C:Addr)(fn:Str):Prop where
 ex:∃(bm bmN:K9) (newId Bn inN B nid initId:String) (fI:Addr) (fd:Lc) (ps:Le),Ag K C bm newId/\ExcBaseFacts Bn newId inN bmN/\bm.contains (.type Bn)=true/\ExcBaseFacts B nid initId bm /\
  PySem.W.findIn K (.ref C) "__init__"=some (some (.ref fI))/\PySem.W.typeIn K (.ref fI)=some (.type "function")/\Gv P w K mg base bG k fI fd ps (mv C fn)/\cn K fd ps []
section
variable {X:Cx}{e e₀:Expr}{tx:TX}{t:TA}{x y:Str}{C D:Addr}{fn:Str}{k:Nat}{bmD:K9}{nD:String}{rpos pos pos2 hpos np np2 cpos npos:Pos}{kd:Nat}{E:XK}
end
end L2
namespace PySem
section
variable {cp:Value->Prop}{M:Model}{A:Lf}{E:K4}{s:K8}{base:Heap}{env:Env}{outer:List Env}{L e:Addr}{Q:Unit->Shared->Prop}
end
end PySem
namespace L2
open PySem PySem.Spec PyProof.Rows
section
variable {P:Ld}{w:Lg}{K:K5}{mg:Lb}{base:Heap}{N:Le}{qual:Str}{scope:Scope}{f:Addr}{cd:Value}{A:Lf}{outer:List Env}{s:K8}{H:Hp}{E E1:XK}
end
section
variable {X:Cx}
end
section
variable {P:Ld}{w:Lg}{K:K5}{mg:Lb}{base:Heap}{N:Le}{qual:Str}{scope:Scope}{f:Addr}{cd:Value}{A:Lf}{outer:List Env}{s:K8}{H:Hp}{E E1:XK}
end
open QL
section
variable {X:Cx}
end
section
variable {prog:Ld}{w:Lg}{A:Lf}{E:K4}{s:K8}
end
section
variable {X:Cx}{e:Expr}{t:TE}{p p2 pos pos2:Pos}
end
end L2
namespace L2
open PySem PySem.Spec PyProof.Rows QL
section
variable {X:Cx}
end
theorem az.sqT{K:K5}{H H':Hp}{a:Addr}{xs:List V}(e:az H H')(h:bh K H a xs):bh K H' a xs:=by
 rcases h with(h | ⟨o,h⟩) | h
 ·exact .inl (.inl (e _ _ h))
 ·exact .inl (.inr ⟨o,e _ _ h⟩)
 ·exact .inr h
section
variable {K:K5}{g:TG}{tb:TS}{D:iK}{σ:St}{H:Hp}
theorem CD{a:Addr}{xs:List V}(Pv:Nat->St->Hp->Prop)(h0:Pv 0 σ H)(hl:∀i σ H,i<=xs.length->Pv i σ H->aS K H a xs)
  (hs:∀i x σ H,i<xs.length->xs[xs.length-1-i]?=some x->Pv i σ H->g x σ H λσ2 H2=>tb {D with nx:=Pv (i+1),ct:=Pv (i+1),bk:=D.nx} σ2 H2) (hd:∀σ H,Pv xs.length σ H->D.nx σ H):uS (Gx K a xs.length) g tb D σ H:=by
 refine⟨λi m σ H=>Pv i σ H/\i<=xs.length/\m=xs.length+1-i,⟨_,h0,Kw _,rfl⟩,?_⟩;rintro i m σ' H' ⟨w,hi,rfl⟩;rcases Nat.lt_or_ge i xs.length with hlt | hge
 ·refine .inr ⟨⟨xs,xs[xs.length-1-i]'⋯,hl _ _ _ hi w,hlt,J7 ⋯⟩,Pv (i+1),λσ2 H2 w2=>⟨xs.length+1-(i+1),⋯,w2,hlt,rfl⟩,λx H2 y=>?_⟩
  obtain⟨rfl,hx⟩:=y;exact hs i x σ' H2 hlt (hx xs (hl _ _ _ hi w)) w
 ·have e:i=xs.length:=by omega
  subst e;exact .inl ⟨rfl,hd _ _ w⟩
end
noncomputable def ij(H H':Hp):Prop:=∀b xs,H b=some (.tup xs)->H' b=some (.tup xs)
theorem ij.of{H H':Hp}(s:az H H'):ij H H':=λb xs h=>s b _ h
mutual
noncomputable def b5(H:Hp):Dt->V->Prop
 | .int i,v=>v=.int i
 | .tup ds,v=>∃a xs,v=.ref a/\H a=some (.tup xs)/\aR H ds xs
 |_,_=>False
noncomputable def aR(H:Hp):List Dt->List V->Prop
 | [],xs=>xs=[]
 |d::ds,xs=>∃x r,xs=x::r/\b5 H d x/\aR H ds r
end
mutual
theorem b5.up{H H':Hp}(e:ij H H'):∀(d:Dt) {v:V},b5 H d v->b5 H' d v
 | .int i,v,h=>by unfold b5 at h ⊢;exact h
 | .tup ds,v,h=>by unfold b5 at h ⊢;obtain⟨a,xs,r,hs,hd⟩:=h;exact⟨a,xs,r,e _ _ hs,aR.up e ds hd⟩
 | .non,v,h=>by unfold b5 at h;exact h.elim
 | .bl b,v,h=>by unfold b5 at h;exact h.elim
 | .str x,v,h=>by unfold b5 at h;exact h.elim
 | .lst ds,v,h=>by unfold b5 at h;exact h.elim
theorem aR.up{H H':Hp}(e:ij H H'):∀(ds:List Dt) {xs:List V},aR H ds xs->aR H' ds xs
 | [],xs,h=>by unfold aR at h ⊢;exact h
 |d::ds,xs,h=>by unfold aR at h ⊢;obtain⟨x,r,e0,h1,h2⟩:=h;exact⟨x,r,e0,b5.up e d h1,aR.up e ds h2⟩
end
mutual
theorem b5.rd{K:K5}{H:Hp}:∀(d:Dt) {v:V},b5 H d v->om K H d v
 | .int i,v,h=>by unfold b5 at h;unfold om;exact h
 | .tup ds,v,h=>by unfold b5 at h;unfold om;obtain⟨a,xs,r,hs,hd⟩:=h;exact⟨a,xs,r,bh.of hs,aR.rd ds hd⟩
 | .non,v,h=>by unfold b5 at h;exact h.elim
 | .bl b,v,h=>by unfold b5 at h;exact h.elim
 | .str x,v,h=>by unfold b5 at h;exact h.elim
 | .lst ds,v,h=>by unfold b5 at h;exact h.elim
theorem aR.rd{K:K5}{H:Hp}:∀(ds:List Dt) {xs:List V},aR H ds xs->ig K H ds xs
 | [],xs,h=>by unfold aR at h;unfold ig;exact h
 |d::ds,xs,h=>by unfold aR at h;unfold ig;obtain⟨x,r,e0,h1,h2⟩:=h;exact⟨x,r,e0,b5.rd d h1,aR.rd ds h2⟩
end
theorem aR.cons{H:Hp}{d:Dt}{ds:List Dt}{x:V}{xs:List V}(h:b5 H d x)(t:aR H ds xs):aR H (d::ds) (x::xs):=by unfold aR;exact⟨x,xs,rfl,h,t⟩
theorem aR.nil{H:Hp}:aR H [] []:=by unfold aR;rfl
theorem aR.uncons{H:Hp}{d:Dt}{ds:List Dt}{xs:List V}(h:aR H (d::ds) xs):∃x r,xs=x::r/\b5 H d x/\aR H ds r:=by unfold aR at h;exact h
theorem aR.length{H:Hp}:∀{ds:List Dt} {xs:List V},aR H ds xs->xs.length=ds.length
 | [],_,h=>by unfold aR at h;rw[h];rfl
 |d::ds,xs,h=>by
  obtain⟨x,r,rfl,_,h2⟩:=h.uncons;simp[aR.length h2]
theorem aR.app{H:Hp}:∀{ds es:List Dt} {xs ys:List V},aR H ds xs->aR H es ys->aR H (ds++es) (xs++ys)
 | [],es,xs,ys,h,k=>by unfold aR at h;subst h;exact k
 |d::ds,es,xs,ys,h,k=>by
  obtain⟨x,r,rfl,h1,h2⟩:=h.uncons;exact aR.cons h1 (aR.app h2 k)
theorem b5.node{H:Hp}{a:Addr}{i:Int}{ds:List Dt}{xs:List V}(h:H a=some (.tup (V.int i::xs)))(t:aR H ds xs):b5 H (.tup (.int i::ds)) (.ref a):=by
 unfold b5;exact⟨a,_,rfl,h,aR.cons (by unfold b5;rfl) t⟩
section
variable {np:Nat->Nat}{num:Str->Option Nat}
end
theorem vP:∀{ns:List Int} {us:K9},bg (ns.map V.int) us->∃ps:List (Int×Tok),us.toArray=intItems ps.toArray/\ps.map (·.1)=ns
 | [],us,r=>⟨[],by have:=r.zero;subst this;simp[intItems],rfl⟩
 |n::ns,us,r=>by
  cases r with
  |cons h t=>
   obtain⟨tk,rfl⟩:=h;obtain⟨ps,e1,e2⟩:=vP t;refine⟨(n,tk)::ps,?_,by rw[KC,e2]⟩;have:=congrArg Array.toList e1;unfold intItems at this ⊢;simp at this ⊢;exact this
section
variable {X:Cx}
theorem nN(hc:X.calm=true):gI X (.builtin "sum") (λxs H Q=>∃(p:Addr) (ns:List Int),xs=[.ref p]/\aS X.K H p (ns.map V.int)/\Q (.int ns.sum) H):=by
 intro pins s σ H xs us Q I r h;obtain⟨p,ns,rfl,hs,q⟩:=h;obtain⟨u,rfl,ru⟩:=r.one;cases ru;obtain⟨its,rv,pl,_⟩:=I.list hs;obtain⟨ps,e1,e2⟩:=vP rv;refine sum_intListG (xs:=ps.toArray) (I.ok.hd hc) (by rw[<- e1];exact pl.isList) λh' tk t' hk=>?_;have e3:preSum (numAt ps.toArray) ps.toArray.size=ns.sum:=by
  rw[preSum_eq,List.take_of_length_le (by simp),<- e2]
 rw[e3];exact⟨.int _,H,I.kept (t':=tk) hk,⟨_,rfl⟩,q⟩
theorem wK:bootBuiltins "sum"=some (.builtin "sum"):=by decide +kernel
end
section
variable {prog:Ld}{w:Lg}{A:Lf}{R:Result->Shared->Prop}{I:Addr}{fp wr:La}{n:Nat}{P:Nat->Value->Prop}{St:Nat->Heap->Prop}
end
section
variable {prog:Ld}{w:Lg}{A:Lf}{E:K4}{s:K8}
end
section
variable {X:Cx}{e:Expr}{t tk:TA}{p pos kpos:Pos}{de:Expr}
end
end L2
namespace L2
open PySem PySem.Spec PyProof.Rows QL bF
theorem B7{α β:Type}{g:α->β}:∀(l:List α) (f':α->Option β),(∀k∈l,f' k=some (g k))->l.filterMap f'=l.map g
 | [],_,_=>rfl
 |a::l,f',h=>by
  rw[List.filterMap_cons,h a List.mem_cons_self,KC,B7 l f' λk hk=>h k (Kn _ hk)]
section
variable {X:Cx}
noncomputable def Dh(K:K5):R2:=λx y H Q=>∃a b xs ys,x=.ref a/\y=.ref b/\bh K H a xs/\bh K H b ys/\xs.length+ys.length<=sizeLine/\∀p H',bh K H' p (xs++ys)->az H H'->Q (.ref p) H'
theorem yT:bd X (binaryOp .Add) (Dh X.K):=by
 intro pins s σ H x y v u Q I rx ry h;obtain⟨a,b,xs,ys,rfl,rfl,ha,hb,hz,q⟩:=h
 by_cases hx:xs=[]
 ·subst hx
  cases rx;cases ry;obtain⟨its,r1,p1,_⟩:=I.tuple ha;obtain⟨its2,r2,p2,_⟩:=I.tuple hb;have e1:its=[]:=r1.zero;subst e1;obtain⟨⟨cls,dd,data,sl⟩,ho,hc,n,hd⟩:=id p1;obtain⟨⟨cls2,dd2,data2,sl2⟩,ho2,hc2,n2,hd2⟩:=id p2;simp only at hc hd hc2 hd2;subst hc hd hc2 hd2;exact concat_meets ⟨_,ho,rfl⟩ ⟨_,ho2,rfl⟩ noFill_tuple_add seq_tuple_add PySem.F.slot_tuple_add PySem.F.entry_tuple_add (PySem.F.args_tuple_add_2 _ _)
   (tuple_addW0 a b _ _ n n2 dd dd2 sl sl2 (by rfl)) ⟨ho,ho2,⟨.ref b,H,I,rfl,q b H (by rw[KW];exact hb) (az.refl _)⟩⟩
 ·refine dH pins s σ H _ _ v u Q I rx ry ⟨a,b,xs,ys,rfl,rfl,ha,hb,hx,hz,λe=>?_,λ_ p hp=>q p _ (bh.of ac) (ae hp)⟩
  refine q a H ?_ (az.refl _);rw[e,KH];exact ha
variable {e st:Expr}{te ts:TE}{p2 pos:Pos}
end
noncomputable abbrev mJ(a:Addr):Obj:={cls:=.type "tuple_iterator",data:=.fields #[.ref a,.int 0 0]}
noncomputable abbrev tI(a:Addr):Obj:={cls:=.type "enumerate",data:=.fields #[.none,.bool false,.ref a,rawInt 0,.none,.none]}
theorem Af(a:Addr)(us:Array Value)(n:Nat)(dd:Lh)(ss:Array (Option Value)) :
  Meets (Builtin.«enumerate.__new__» ⟨[.type "enumerate",.ref a],[]⟩) (λ_ R s=>s.heap.get? a=some {cls:=.type "tuple",dict:=dd,data:=.seq us n,slots:=ss} /\
   R (.ok (.ret (.ref (s.heap.push (mJ a)).objs.size))) {s with heap:=(s.heap.push (mJ a)).push (tI s.heap.objs.size)}):=
 .of_wp λprog w A R s h=>by
  obtain⟨h0,g0,d0,t0,o0⟩:=s;obtain⟨ea,h⟩:=h;have sb:=sub_enumerate;have isT:Heap.IsTuple (Shared.heap ⟨h0,g0,d0,t0,o0⟩) a us:=⟨_,ea,rfl,n,rfl⟩
  wp_walk using AutoSeq1.wpAny_loadPart' ea
  refine wpAny_stack_any λ_=>wpAny_pure ?_
  split
  ·rename_i cc _ _ _ _ _
   cases(cc==Value.type "enumerate")
   ·wp_walk using AutoSeq1.wpAny_loadPart' ea,wpAny_pyIter_tuple isT
    exact⟨_,rfl,h⟩
   ·wp_walk using AutoSeq1.wpAny_loadPart' ea,wpAny_pyIter_tuple isT
    exact⟨_,rfl,h⟩
  ·wp_walk using AutoSeq1.wpAny_loadPart' ea,wpAny_pyIter_tuple isT
   exact⟨_,rfl,h⟩
section
variable {prog:Ld}{w:Lg}{A:Lf}{E:K4}{s:K8}
theorem xl{a:Addr}{us:Array Value}{Q:K4}(ha:s.heap.IsTuple a us)
  (h:∀h',IsEnum h' (s.heap.objs.size+1) s.heap.objs.size 0 .none->h'.IsTupleIter s.heap.objs.size a 0->(∀b o,s.heap.get? b=some o->h'.get? b=some o)->Q (.ref (s.heap.objs.size+1)) {s with heap:=h' }) :
  wpAny (model prog w) A (call (.type "enumerate") [.ref a]) Q E s:=by
 obtain⟨⟨c,dd,dt,ss⟩,ea,ec,n,ed⟩:=ha;simp only at ec ed;subst ec ed;refine callType_new F.called_enumerate nofun (F.typeCall_enumerate_1 _) (F.newCall_enumerate_1 _) (λob=>F.args_object_init_2 ob _) F.entry_enumerate_new (Af a us n dd ss) ⟨ea,?_⟩;have sz:(s.heap.push (mJ a)).objs.size=s.heap.objs.size+1:=Heap.size_push ..;show _/\_;rw[sz];have ie:IsEnum ((s.heap.push (mJ a)).push (tI s.heap.objs.size)) (s.heap.objs.size+1) s.heap.objs.size 0 .none:=by
  have q:=Kd (s.heap.push (mJ a)) (o:=tI s.heap.objs.size) rfl;rw[sz]at q;exact q
 exact⟨⟨_,ie,rfl⟩,h _ ie ⟨_,J9 _ (Kd _ rfl),rfl,rfl⟩ λb o q=>J9 _ (J9 _ q)⟩
theorem wT{i0 a:Addr}{i:Nat}{us:Array Value}{x:Value}{Q:K4}(ii:s.heap.IsTupleIter i0 a i)(ha:s.heap.IsTuple a us)(hx:us[i]?=some x)
  (q:∀h',h'.IsTupleIter i0 a (i+1)->Heap.SameBut i0 s.heap h'->Q x {s with heap:=h' }):wpAny (model prog w) A (Builtin.SmallTypes.nextOf (.ref i0)) Q E s:=by
 obtain⟨oi,ei,ci,di⟩:=id ii;obtain⟨oa,ea,_,na,da⟩:=ha;unfold Builtin.SmallTypes.nextOf;refine wpAny_bind (wpAny_callSpecial?_slot (name:=Str.ofString "__next__") ii.typeIs F.slot_tuple_iterator_next (wpAny_call_entry F.slot_tuple_iterator_next ii.typeIs F.entry_tuple_iterator_next ?_ (F.args_tuple_iterator_next_1 _)));show wpAny _ _ (field (.ref i0) 0 >>= _) _ _ s;refine wpAny_bind (wpAny_field ei di (x:=.ref a) rfl ?_);show wpAny _ _ (if(Value.ref a==Value.none)=true then _ else _) _ _ s;rw[if_neg (show ¬ ((Value.ref a==Value.none)=true) from Kx)];show wpAny _ _ (field (.ref i0) 1 >>= _) _ _ s;refine wpAny_bind (wpAny_field ei di (x:=.int i 0) rfl ?_);show wpAny _ _ (seqItems? (.ref a) >>= _) _ _ s;refine wpAny_bind (wpAny_seqItems ea da ?_);simp only[Kg,hx];refine wpAny_bind (wpAny_setField ei di (by simp) (wpAny_pure ⟨x,rfl,wpAny_pure (q _ ?_ (Heap.SameBut.update ..))⟩));exact⟨_,Kh _ ei (Obj.isFreed_of_fields (Obj.data_mapFields di _)),(Obj.cls_mapFields ..).trans ci,by rw[Obj.data_mapFields di];simp[rawInt]⟩
theorem zj{i0 a:Addr}{i:Nat}{us:Array Value}{Q:K4}(hh:A.handled=none)(ii:s.heap.IsTupleIter i0 a i)(ha:s.heap.IsTuple a us)(hx:us[i]?=none)
  (q:∀h' e,Heap.ExtBut i0 s.heap h'->(∃o,h'.get? e=some o/\o.cls=.type "StopIteration")->E (.ref e) {s with heap:=h' }):wpAny (model prog w) A (Builtin.SmallTypes.nextOf (.ref i0)) Q E s:=by
 obtain⟨oi,ei,ci,di⟩:=id ii;obtain⟨oa,ea,_,na,da⟩:=ha;unfold Builtin.SmallTypes.nextOf;refine wpAny_bind (wpAny_callSpecial?_slot (name:=Str.ofString "__next__") ii.typeIs F.slot_tuple_iterator_next (wpAny_call_entry F.slot_tuple_iterator_next ii.typeIs F.entry_tuple_iterator_next ?_ (F.args_tuple_iterator_next_1 _)));show wpAny _ _ (field (.ref i0) 0 >>= _) _ _ s;refine wpAny_bind (wpAny_field ei di (x:=.ref a) rfl ?_);show wpAny _ _ (if(Value.ref a==Value.none)=true then _ else _) _ _ s;rw[if_neg (show ¬ ((Value.ref a==Value.none)=true) from Kx)];show wpAny _ _ (field (.ref i0) 1 >>= _) _ _ s;refine wpAny_bind (wpAny_field ei di (x:=.int i 0) rfl ?_);show wpAny _ _ (seqItems? (.ref a) >>= _) _ _ s;refine wpAny_bind (wpAny_seqItems ea da ?_);simp only[Kg,hx];refine wpAny_bind (wpAny_rule (wpAny_bind (wpAny_setField ei di (by simp) ?_)));show wpAny _ _ (newExc (.type "StopIteration") [] >>= _) _ _ _;refine wpAny_bind ?_;simp only[newExc,newTuple];refine wpAny_bind (wpAny_newObj_type ?_ (by size_fits));refine wpAny_bind (m:=firstArgMember _ _) (wpAny_of_eq (a:=Value.none) (by first | rfl | (simp only[firstArgMember];rfl)) ?_);refine wpAny_newObj_type ?_ (by size_fits);simp only[raiseNew];refine wpAny_bind (wpAny_handled ?_)
 first | rw[show A.in1.handled=none from hh] | rw[hh]
 refine wpAny_bind (wpAny_pure (wpAny_throw ?_));exact q _ _ (((Heap.SameBut.update ..).extBut.push _).push _) ⟨_,Kd _ rfl,rfl⟩
end
theorem CC{prog:Ld}{w:Lg}{A:Lf}(hh:A.handled=none)(i0 a:Addr)(hne:a≠i0)(us:Array Value) :
  Draws prog w A i0 [i0,a] us.size (λi v=>us[i]?=some v) (λi h=>h.IsTupleIter i0 a i/\h.IsTuple a us) where
 live:=λ_ _ st=>let ⟨o,ho,_⟩:=st.1;⟨o,ho⟩
 frame:=λ_ _ _ st kp=>⟨by obtain⟨o,ho,r⟩:=st.1;exact⟨o,kp i0 (by simp) o ho,r⟩,by obtain⟨o,ho,r⟩:=st.2;exact⟨o,kp a (by simp) o ho,r⟩⟩
 item:=λi s Q E hi st q=>by
  refine wT st.1 st.2 (x:=us[i]) (by simp[hi]) λh' i1 sb=>?_;refine q _ h' s.toks (by simp[hi]) ⟨i1,?_⟩ sb;obtain⟨o,ho,r⟩:=st.2;exact⟨o,(sb.2 a hne).trans ho,r⟩
 done:=λs Q E st q=>zj hh st.1 st.2 (by simp) q
noncomputable def Fi(K:K5)(a:Addr):It:=
 ⟨λi H=>∃xs x,bh K H a xs/\xs[i]?=some x,λi H v H'=>∃T x,v=.ref T/\H T=none/\H'=ax H T (.tup [.int (i:Int),x])/\∀xs,bh K H a xs->xs[i]?=some x,λi H=>∃xs,bh K H a xs/\xs.length=i⟩
theorem xv{P:Ld}{w:Lg}{K:K5}{elts:Li}{x1:Nat}{tp:Pos}{e it l:Addr}(hei:e≠it)(hel:l≠e)(hil:l≠it) :
  pk P w K (.Tuple elts x1 tp) (Fi K l) [e,it] e (λi h=>(∃old,IsEnum h e it i old)/\h.IsTupleIter it l i) where
 mem:=by simp
 obj:=λi h st b hb=>by
  obtain⟨⟨old,he⟩,⟨o1,e1,c1,d1⟩⟩:=st;simp only[Km,List.not_mem_nil,or_false]at hb;rcases hb with rfl | rfl
  ·exact⟨_,he,λv q=>by cases q⟩
  ·exact⟨_,e1,λv q=>by rw[d1]at q;cases q⟩
 keep:=λi h h' st hk=>by
  obtain⟨⟨old,he⟩,⟨o1,e1,r⟩⟩:=st;exact⟨⟨old,hk e (by simp) _ he⟩,⟨o1,hk it (by simp) _ e1,r⟩⟩
 item:=by
  intro X hP hw hK hc i pins s σ H E I hf st hg;subst hP hw hK;obtain⟨xs,x,hq,hx⟩:=hg;obtain⟨its,rv,p,hz⟩:=I.tuple hq;obtain⟨u,hu,ru⟩:=rv.get hx;obtain⟨⟨old,he⟩,h1⟩:=st;obtain⟨o1,e1,_⟩:=id h1;have D:=CC (prog:=X.prog) (w:=X.w) (A:=X.A.in1) (I.ok.hd hc) it l hil its.toArray;have hlt:i<its.toArray.size:=by rw[Ke];exact(J8.mp hu).1
  refine wpAny_pyNext_enum_itemD D he ⟨h1,p⟩ hlt hei (by simp[hei,Ne.symm hel]) λv h' tk hv a1 a2 a3 a4 hk=>?_;have ev:v=u:=by
   have:its[i]?=some v:=by simpa using hv
   rw[hu]at this;exact(Option.some.inj this).symm
  subst ev;refine⟨_,rfl,wpAny_letOwnedTupleGo_enum a1 λh2 he2 hs2=>?_⟩;have hfree:H s.heap.objs.size=none:=I.hok.fresh (Kv _);have lt:∀{c o},s.heap.get? c=some o->s.heap.objs.size≠c:=λe=>Nat.ne_of_gt (Ky e);have kk:∀c o,c∉[e,it]->s.heap.get? c=some o->h2.get? c=some o:=λc o hc q=>
   hs2.extBut _ _ (λz=>hc (by simp[z])) (hk c o (λz=>hc (by simp[z])) (λz=>hc (by simp[z])) q)
  have hT:h2.get? s.heap.objs.size=some {cls:=.type "tuple",data:=.seq #[.int i tk,v]}:=hs2.extBut _ _ (lt he) a3;refine⟨.ref s.heap.objs.size,ax H s.heap.objs.size (.tup [.int i,x]),I.movedT (tk:=tk+1) hf kk (Kv _) ⟨show 2<=sizeLine from by decide +kernel,[.int i tk,v],.cons ⟨_,rfl⟩ (.cons ru .nil),_,hT,rfl,_,rfl⟩,rfl,
   ⟨_,x,rfl,hfree,rfl,λzs hzs=>by rw[I.tuple_inj hzs hq];exact hx⟩,⟨⟨v,by simpa using he2⟩,?_⟩,λb hb=>?_⟩
  ·obtain⟨o2,e2,r⟩:=a2.1
   exact⟨o2,hs2.extBut _ _ (Ne.symm hei) e2,r⟩
  have hlt:b≠s.heap.objs.size:=by
   simp only[Km,List.not_mem_nil,or_false]at hb;rcases hb with rfl | rfl
   ·exact(lt he).symm
   ·exact(lt e1).symm
  rw[ao hlt];exact(hf b hb).1
 done:=by
  intro X hP hw hK hc i pins s σ H E I hf st hg;subst hP hw hK;obtain⟨xs,hq,hx⟩:=hg;obtain⟨its,rv,p,hz⟩:=I.tuple hq;obtain⟨⟨old,he⟩,h1⟩:=st;have l1:=rv.length;have D:=CC (prog:=X.prog) (w:=X.w) (A:=X.A.in1) (I.ok.hd hc) it l hil its.toArray;have ei:i=its.toArray.size:=by rw[Ke];omega
  subst ei;exact wpAny_pyNext_enum_endD D he ⟨h1,p⟩ λh' hk=>⟨rfl,I.moved (tk:=s.toks) hf λc o hc e=>hk c o (λq=>hc (by simp[q])) e⟩
 self:=λ_ _ _ _ _ st h=>let ⟨⟨_,he⟩,_⟩:=st;wpAny_pyIter_enum he h
noncomputable def xb(K:K5)(ta:TA):TI:=λσ H R=>ta σ H λvs H1=>∃a xs,vs=[.ref a]/\bh K H1 a xs/\R (Fi K a) H1
section
variable {X:Cx}{elts:Li}{x1:Nat}{tp:Pos}
theorem CS{a:Expr}{ta:TA}{p pos:Pos}(hg:Gl X "enumerate")(hm:X.mg "enumerate"=none)(ha:PA X [a] ta)(hs:autoParam (starEach [a] X.env=[(false,eval a X.env)]) zz0._auto_1):PI X (.Tuple elts x1 tp) (.Call (.Name "enumerate" p) [a] [] pos) (xb X.K ta):=by
 intro pins s σ H R I h;refine Call_ (e_ I hg hm boot_enumerate (PyProof.Rows.callWith_type1 (bZ (ha pos pins s σ H _ I h) λus s1 ⟨vs,H1,I1,r1,q1⟩=>?_) (by rw[hs];rfl) (by rfl)));obtain⟨l,xs,rfl,hq,q⟩:=q1;obtain⟨u,rfl,ru⟩:=r1.one;cases ru;obtain⟨its,rv,p1,_⟩:=I1.tuple hq;have hll:l<s1.heap.objs.size:=by obtain⟨o,e,_⟩:=p1;exact Ky e
 refine xl p1 λh' z1 z2 hk=>?_;have I2:Inv X pins σ H1 {s1 with heap:=h' }:=I1.kept (t':=s1.toks) hk;refine wpAny_pyIter_enum z1 ?_;refine⟨s1.heap.objs.size+1,[s1.heap.objs.size+1,s1.heap.objs.size],_,_,H1,rfl,I2,xv (l:=l) (Nat.ne_of_gt (KG _)) (Kr (Nat.lt_succ_of_lt hll)) (Kr hll),⟨⟨_,z1⟩,z2⟩,λb hb=>?_,q⟩;have hb':s1.heap.objs.size<=b:=by
  simp only[Km,List.not_mem_nil,or_false]at hb;rcases hb with e | e<;>(rw[e];first | exact Kv _ | exact Nat.le_add_right _ _)
 exact I1.fpOk hb' (I1.hok.fresh hb')
end
section
variable {K:K5}{g:TG}{tb:TS}{D:iK}{σ:St}{H:Hp}
theorem xI{a:Addr}{xs:List V}(Pv:Nat->St->Hp->Prop)(h0:Pv 0 σ H)(hl:∀i σ H,i<=xs.length->Pv i σ H->bh K H a xs)
  (hs:∀(i:Nat) x σ H T,xs[i]?=some x->Pv i σ H->H T=none->g (.ref T) σ (ax H T (.tup [.int (i:Int),x])) λσ2 H2=>tb {D with nx:=Pv (i+1),ct:=Pv (i+1),bk:=D.nx} σ2 H2) (hd:∀σ H,Pv xs.length σ H->D.nx σ H):uS (Fi K a) g tb D σ H:=by
 refine⟨λi m σ H=>m=xs.length-i/\i<=xs.length/\Pv i σ H,⟨xs.length,by simp,Kw _,h0⟩,?_⟩;rintro i m σ H ⟨rfl,hi,p⟩;have q:=hl i σ H hi p
 by_cases hlt:i<xs.length
 ·refine .inr ⟨⟨xs,xs[i],q,by simp[hlt]⟩,Pv (i+1),λσ' H' p'=>⟨xs.length-(i+1),⋯,rfl,hlt,p'⟩,λx H' y=>?_⟩
  obtain⟨T,x,rfl,hT,rfl,y⟩:=y;exact hs i x σ _ T (y xs q) p hT
 ·have e:i=xs.length:=by omega
  subst e;exact .inl ⟨⟨xs,q,rfl⟩,hd σ H p⟩
end
section
variable {prog:Ld}{w:Lg}{A:Lf}{E:K4}{s:K8}
end
section
variable {prog:Ld}{w:Lg}{A:Lf}{E:K4}{s:K8}
end
section
variable {X:Cx}{e:Expr}{t:TE}{p p2 pos pos2:Pos}
end
section
variable {prog:Ld}{w:Lg}{A:Lf}{E:K4}
end
section
variable {prog:Ld}{w:Lg}{A:Lf}{E:K4}{s:K8}
end
section
variable {X:Cx}{tg:Expr}
end
section
variable {prog:Ld}{w:Lg}{A:Lf}{E:K4}{s:K8}
open HT in
theorem kL{t sl:Addr}{items:Array Value}{vl vu:Value}{lo hi:Option Int}{Q:K4}(ht:IsTup s.heap t items)(hs:s.heap.IsSliceOf sl vl vu .none)(pl:IsPart vl lo)(pu:IsPart vu hi)
  (hw:sIx items.size 0 lo=0/\sIx items.size items.size hi=items.size) (h:Q (.ref t) s):wpAny (model prog w) A (getItem (.ref t) (.ref sl)) Q E s:=by
 obtain⟨os,hos,hcs,hds⟩:=id hs;have hTs:s.TypeIs (.ref sl) "slice":=⟨os,hos,hcs⟩;unfold getItem
 try with_reducible refine wpAny_holding ?_
 first | refine wpAny_bind (wpAny_pure ?_) | skip
 refine wpAny_bind (wpAny_sequenceKey ht.typeIs nofun ?_);refine wpAny_bind (wpAny_callSpecial?_slot (name:=Str.ofString "__getitem__") ht.typeIs PyProof.Rows.slot_tuple_getitem
  (wpAny_call_entry PyProof.Rows.slot_tuple_getitem ht.typeIs entry_tuple_getitem ?_ (args_tuple_getitem _ _)))
 show wpAny _ _ (Builtin.Tuple.tupleItemsOf (.ref t) >>= _) _ _ s;refine wpAny_bind (tupleItemsOf_ ht ?_);refine wpAny_bind (wpAny_typeOf hTs ?_);rw[if_pos nofun];refine wpAny_bind (io hs pl pu ?_);have hyes:(((sIx items.size 0 lo:Nat):Int)==0&&(1:Int)==1&&(sIx items.size items.size hi-sIx items.size 0 lo)==items.size)=true:=by
  rw[hw.1,hw.2];simp
 show wpAny _ _ (if(((sIx items.size 0 lo:Nat):Int)==0&&(1:Int)==1&&(sIx items.size items.size hi-sIx items.size 0 lo)==items.size)=true then _ else _) _ _ s;rw[if_pos hyes];refine wpAny_bind ?_;unfold Builtin.Tuple.tupleIsExact;refine wpAny_bind (wpAny_typeOf ht.typeIs ?_);refine wpAny_pure ?_;rw[if_pos nofun];refine wpAny_bind (wpAny_rule ?_);exact wpAny_pure ⟨_,rfl,wpAny_pure h⟩
end
noncomputable def Fz(K:K5):V->Option Int->Option Int->Hp->VK->Prop:=λx lo hi H Q=>∃a xs,x=.ref a/\bh K H a xs/\∀p H',bh K H' p (m3 xs lo hi)->az H H'->Q (.ref p) H'
section
variable {X:Cx}
theorem DW:GD X (Fz X.K):=by
 intro pins s σ H x v vl vu lo hi sl Q I rx hs pl pu h;obtain⟨a,xs,rfl,ha,q⟩:=h;cases rx;obtain⟨its,r,ht,hz⟩:=I.tuple ha;have hlen:its.toArray.size=xs.length:=by rw[Ke];exact r.length.symm
 refine⟨"tuple",_,PyProof.Rows.slot_tuple_getitem.lookup,ht.typeIs,?_⟩
 by_cases hw:HT.sIx xs.length 0 lo=0/\HT.sIx xs.length xs.length hi=xs.length
 ·refine kL ht hs pl pu (by rw[hlen];exact hw) ?_
  refine⟨.ref a,H,I,rfl,q a H ?_ (az.refl _)⟩;have e:m3 xs lo hi=xs:=by unfold m3;rw[hw.1,hw.2,K3,Nat.sub_zero,KL]
  rw[e];exact ha
 ·refine HT.getItem_tuple_cut ht hs pl pu (by rw[hlen];exact hw) ?_ (by rw[hlen];exact hz)
  rw[hlen];refine⟨.ref s.heap.objs.size,_,I.laid (t':=s.toks) (o:=.tup (m3 xs lo hi)) (λb ob q=>J9 _ q) (Kv _) ?_,rfl,q _ _ (bh.of ac) (ae (I.hok.fresh (Kv _)))⟩;exact⟨KD (jT xs lo hi) hz,_,(r.drop (HT.sIx xs.length 0 lo)).take (HT.sIx xs.length xs.length hi-HT.sIx xs.length 0 lo),IsTup.new _ _⟩
end
section
variable {X:Cx}
end
section
variable {X:Cx}
end
theorem Ha{a:Addr}{P:Addr->Prop}:(∃p,V.ref a=V.ref p/\P p)=P a:=by simp
theorem G3{a:Int}{P:Int->Prop}:(∃p,V.int a=V.int p/\P p)=P a:=by simp
theorem G'{a:Bool}{P:Bool->Prop}:(∃p,V.bl a=V.bl p/\P p)=P a:=by simp
theorem Hf{a:Str}{P:Str->Prop}:(∃p,V.str a=V.str p/\P p)=P a:=by simp
theorem G4{α:Type}{a:Addr}{P:Addr->α->Prop}:(∃p,∃x,V.ref a=V.ref p/\P p x) = ∃x,P a x:=by simp
theorem G8{α:Type}{a:Addr}{P:Addr->α->Prop}:(∃p,∃x,[V.ref a]=[V.ref p]/\P p x) = ∃x,P a x:=by simp
theorem G1{α:Type}{a:Addr}{v:V}{P:Addr->α->V->Prop}:(∃p,∃x,∃y,V.ref a=V.ref p/\[v]=[y]/\P p x y) = ∃x,P a x v:=by simp
theorem GX{α β:Type}{a b:Addr}{P:Addr->Addr->α->β->Prop}:(∃p,∃q,∃x,∃y,V.ref a=V.ref p/\V.ref b=V.ref q/\P p q x y) = ∃x,∃y,P a b x y:=by simp
noncomputable def GI(i:Nat):TE:=λσ H Q=>match σ[i]? with
 |some (some v)=>Q v H
 |_=>False
noncomputable def Eu(g:Int->Int->V):R2
 | .int i,.int j,H,Q=>Q (g i j) H
 |x,y,H,Q=>AI g x y H Q
noncomputable def GN(C:Int->Int->Prop)(g:Int->Int->V):R2
 | .int i,.int j,H,Q=>C i j/\Q (g i j) H
 |x,y,H,Q=>rI C g x y H Q
noncomputable def yO(K:K5):R2
 | .ref p,.int i,H,Q=>∃xs,aS K H p xs/\∃v,jl xs i=some v/\Q v H
 |x,y,H,Q=>Cy K x y H Q
noncomputable def yR(K:K5):R2
 | .ref p,.int i,H,Q=>∃xs,bh K H p xs/\∃v,jl xs i=some v/\Q v H
 |x,y,H,Q=>AK K x y H Q
theorem Cn{g:Int->Int->V}{x y:V}{H:Hp}{Q:VK}:Eu g x y H Q=AI g x y H Q:=by
 unfold Eu;split
 ·simp[AI]
 ·rfl
theorem EJ{C:Int->Int->Prop}{g:Int->Int->V}{x y:V}{H:Hp}{Q:VK}:GN C g x y H Q=rI C g x y H Q:=by
 unfold GN;split
 ·simp[rI]
 ·rfl
theorem yo{K:K5}{x y:V}{H:Hp}{Q:VK}:yO K x y H Q=Cy K x y H Q:=by
 unfold yO;split
 ·simp[Cy]
 ·rfl
theorem yV{K:K5}{x y:V}{H:Hp}{Q:VK}:yR K x y H Q=AK K x y H Q:=by
 unfold yR;split
 ·simp[AK]
 ·rfl
theorem DJ{g:Int->Int->V}{i j:Int}{H:Hp}{Q:VK}:Eu g (.int i) (.int j) H Q=Q (g i j) H:=rfl
theorem Fk{C:Int->Int->Prop}{g:Int->Int->V}{i j:Int}{H:Hp}{Q:VK}:GN C g (.int i) (.int j) H Q=(C i j/\Q (g i j) H):=rfl
theorem CL{K:K5}{p:Addr}{i:Int}{H:Hp}{Q:VK}:yO K (.ref p) (.int i) H Q = ∃xs,aS K H p xs/\∃v,jl xs i=some v/\Q v H:=rfl
theorem BD{K:K5}{p:Addr}{i:Int}{H:Hp}{Q:VK}:yR K (.ref p) (.int i) H Q = ∃xs,bh K H p xs/\∃v,jl xs i=some v/\Q v H:=rfl
theorem JY{α β:Type}{f:α->β}{a:α}{l:List α}:List.map f (a::l)=f a::List.map f l:=rfl
theorem IF{α β:Type}{f:α->β}:List.map f []=[]:=rfl
theorem Js{α:Type}{a:α}{l m:List α}:(a::l)++m=a::(l++m):=rfl
theorem JG{α:Type}{m:List α}:[]++m=m:=rfl
theorem IK{α:Type}{a:α}{l:List α}:(a::l)[0]?=some a:=rfl
theorem J1{α:Type}{a:α}{l:List α}{n:Nat}:(a::l)[n+1]?=l[n]?:=rfl
theorem HW{α:Type}{a b:α}{l:List α}:(a::l).set 0 b=b::l:=rfl
theorem JB{α:Type}{a b:α}{l:List α}{n:Nat}:(a::l).set (n+1) b=a::l.set n b:=rfl
section
variable {X:Cx}
theorem ak(i:Nat){x:Str}{pos:Pos}(hN:autoParam (X.N[i]?=some x) zz0._auto_1)(hv:autoParam (GK X.env.scope x) zz6._auto_1)(hd:autoParam ((x==("__debug__":Str))=false) zz1._auto_1)
  (hc:autoParam ((x==("__classdict__":Str))=false) zz1._auto_1):PE X (.Name x pos) (GI i):=λpins s σ H Q I h=>pv i hN hv hd hc pins s σ H Q I (by
 unfold GI at h
 split at h
 ·exact⟨_,‹_›,h⟩
 ·exact h.elim)
theorem bd.m0{f:Value->Value->Sem Value}{g:Int->Int->V}(h:bd X f (AI g)):bd X f (Eu g):=λpins s σ H x y v u Q I a b c=>h pins s σ H x y v u Q I a b (Cn▸c)
theorem bd.m1{f:Value->Value->Sem Value}{C:Int->Int->Prop}{g:Int->Int->V}(h:bd X f (rI C g)):bd X f (GN C g):=λpins s σ H x y v u Q I a b c=>h pins s σ H x y v u Q I a b (EJ▸c)
theorem aZ:EZ X (yO X.K):=λe sl pins s σ H x y v u Q I a b c d=>yv e sl pins s σ H x y v u Q I a b (yo▸c) d
theorem aG:EZ X (yR X.K):=λe sl pins s σ H x y v u Q I a b c d=>Ck e sl pins s σ H x y v u Q I a b (yV▸c) d
end
section
variable {prog:Ld}{w:Lg}{A:Lf}{E:K4}{s:K8}
theorem qV{l:Addr}{a b:Int}{t u:Tok}{Q:K4}(hh:A.handled=none)(hl:s.heap.IsTuple l (intItems #[(a,t),(b,u)]))
  (h:∀h' tk,(∀c o,s.heap.get? c=some o->h'.get? c=some o)->Q (if b>a then .int b u else .int a t) {s with heap:=h',toks:=tk}) :
  wpAny (model prog w) A (call (.builtin "max") [.ref l]) Q E s:=by
 have hlt:l<s.heap.objs.size:=by obtain⟨_,e,_⟩:=hl;exact Ky e
 refine call_max_walk (wpAny_pyIter_tuple hl ?_);refine⟨_,[_,l],[_],_,_,_,_,rfl,Walks.tuple (A:=A.in1) hh _ l (Kr hlt) (intItems #[(a,t),(b,u)]),
  ⟨⟨_,Kd _ rfl,rfl,rfl⟩,hl.push _⟩,λc hc=>?_,by simp[intItems],CmpOf.ints_gt (numAt #[(a,t),(b,u)]) (λ_ _=>intItems_at),λv h' tk hP hk=>?_⟩
 ·show c<(s.heap.push _).objs.size
  rw[Heap.size_push];rcases Km.mp hc with rfl | hc
  ·exact KG _
  ·rcases Km.mp hc with rfl | hc
   ·exact Nat.lt_succ_of_lt hlt
   ·cases hc
 ·have hold:∀c o,s.heap.get? c=some o->h'.get? c=some o:=λc o e=>by
   refine hk c o (λhm=>?_) (J9 _ e);rcases Km.mp hm with e1 | hm
   ·have:=Ky e;rw[e1]at this;exact KF _ this
   ·cases hm
  have:=h h' tk hold;have hv:v=if b>a then Value.int b u else Value.int a t:=by
   have hP':(intItems #[(a,t),(b,u)])[argBest (λi j=>decide (numAt #[(a,t),(b,u)] i>numAt #[(a,t),(b,u)] j)) 1]?=some v:=by
    have hsz2:(intItems #[(a,t),(b,u)]).size-1=1:=by simp[intItems]
    rw[<- hsz2];exact hP
   by_cases hba:b>a
   ·have e:argBest (λi j=>decide (numAt #[(a,t),(b,u)] i>numAt #[(a,t),(b,u)] j)) 1=1:=by simp[argBest,numAt,hba]
    rw[e]at hP'
    simpa[intItems,hba]using hP'.symm
   ·have e:argBest (λi j=>decide (numAt #[(a,t),(b,u)] i>numAt #[(a,t),(b,u)] j)) 1=0:=by simp[argBest,numAt,hba]
    rw[e]at hP'
    simpa[intItems,hba]using hP'.symm
  rw[hv];exact this
end
noncomputable def Bs(K:K5):List V->Hp->VK->Prop:=λxs H Q=>∃p i j,xs=[.ref p]/\bh K H p [.int i,.int j]/\Q (.int (if j>i then j else i)) H
section
variable {X:Cx}
theorem Am(hc:X.calm=true):gI X (.builtin "max") (Bs X.K):=by
 intro pins s σ H xs us Q I r h;obtain⟨p,i,j,rfl,hs,q⟩:=h;obtain⟨u,rfl,ru⟩:=r.one;cases ru;obtain⟨its,rv,⟨o,e,hcl,n,hd⟩,_⟩:=I.tuple hs;obtain⟨v,v',rfl,⟨t,rfl⟩,⟨t',rfl⟩⟩:=ED rv;refine qV (l:=p) (a:=i) (b:=j) (t:=t) (u:=t') (I.ok.hd hc) ⟨o,e,hcl,n,by rw[hd];simp[intItems]⟩ λh' tk k=>⟨_,H,I.kept k,?_,q⟩
 by_cases hj:j>i
 ·rw[if_pos hj,if_pos hj];exact⟨_,rfl⟩
 ·rw[if_neg hj,if_neg hj];exact⟨_,rfl⟩
end
section
variable {g:TG}{ti:TT}{te:TE}{σ:St}{H:Hp}{Q:List V->Hp->Prop}
end
section
variable {X:Cx}{tg:Expr}
end
section
variable {g:TG}{tb:TS}{D:iK}{σ:St}{H:Hp}
end
noncomputable def Gg(o:Obj):Option HO->Option HO
 |some (.lst xs)=>some (.frz o (.lst xs))
 |u=>u
noncomputable def cM(H:Hp)(ls:La)(os:Addr->Obj):Hp:=λb=>if b∈ls then Gg (os b) (H b) else H b
theorem f_{H:Hp}{ls:La}{os:Addr->Obj}{b:Addr}{u:HO}(h:H b=some u)(hn:b∉ls\/∀xs,u≠.lst xs):cM H ls os b=some u:=by
 unfold cM
 split
 ·rename_i hb
  rcases hn with hn | hn
  ·exact absurd hb hn
  ·rw[h]
   cases u<;>first | rfl | exact absurd rfl (hn _)
 ·exact h
theorem Dx{H:Hp}{ls:La}{os:Addr->Obj}{b:Addr}:cM H ls os b=none↔H b=none:=by
 unfold cM
 split
 ·cases h:H b with
  |none=>exact⟨λ_=>rfl,λ_=>rfl⟩
  |some u=>cases u<;>simp[Gg]
 ·exact Iff.rfl
theorem xx{H:Hp}{ls:La}{os:Addr->Obj}{b:Addr}{xs:List V}(h:H b=some (.lst xs))(hb:b∈ls):cM H ls os b=some (.frz (os b) (.lst xs)):=by
 unfold cM;rw[if_pos hb,h];rfl
section
variable {X:Cx}{pins:K6}{σ:St}{H:Hp}{s:K8}
theorem Inv.freeze(I:Inv X pins σ H s){ls:La}(hl:∀l∈ls,∃xs,H l=some (.lst xs)):∃os,Inv X pins σ (cM H ls os) s:=by
 refine⟨λb=>(s.heap.get? b).getD default,?_⟩;generalize hos:(λb=>(s.heap.get? b).getD default:Addr->Obj)=os;have old:∀b u,H b=some u->(∀xs,u≠.lst xs)->cM H ls os b=some u:=λb u h hn=>f_ h (.inr hn);have hok:km X.prog X.w (cM H ls os) s.heap:=λb u e=>by
  by_cases hb:b∈ls
  ·obtain⟨xs,hx⟩:=hl b hb
   rw[xx hx hb]at e;cases e;have ho:=I.hok b _ hx;obtain⟨z,its,n,r,g⟩:=ho;refine⟨?_,z,its,n,r,g⟩;rw[<- hos];show s.heap.get? b=some ((s.heap.get? b).getD default);rw[g];rfl
  ·unfold cM at e
   rw[if_neg hb]at e;exact(I.hok b u e).stay (λc v _ q=>q) (λc q=>old c _ q (by intro xs z;cases z)) λc xs q=>old c _ q (by intro xs z;cases z)
 have un:Un X.fs [] H (cM H ls os) s.heap s.heap:=⟨λb o e _ _ _=>e,λb o e _ _ _=>⟨o.slots,e⟩,λb o _ n _=>Dx.mpr n,λb o e _=>⟨o,e⟩,λb xs e=>old b _ e (by intro xs z;cases z),λb o u e=>old b _ e (by intro xs z;cases z),λb ps e=>⟨#[],by rw[old b _ e (by intro xs z;cases z)];simp⟩⟩;exact I.un (h':=s.heap) (t':=s.toks) un hok
noncomputable def E3(t:TS):TS:=λD σ H=>t {D with nx:=λσ' H'=>∃ls:List Addr,(∀l∈ls,∃xs,H' l=some (.lst xs))/\∀os,D.nx σ' (cM H' ls os)} σ H
theorem FR{st:Stmt}{t:TS}(h:PS X st t):PS X st (E3 t):=by
 intro pins s σ H D I q;refine bZ (h pins s σ H _ I q) λf s' hf=>?_;cases f with
 |next=>
  obtain⟨σ',H',I',ls,hl,q'⟩:=hf;obtain⟨os,I2⟩:=I'.freeze hl;exact⟨σ',_,I2,q' os⟩
 |brk=>exact hf
 |cont=>exact hf
 |ret u=>exact hf
end
noncomputable def Gz(_ j:Int):Prop:=0<j/\j.natAbs.log2<9000
section
variable {X:Cx}
theorem Dw:bd X (binaryOp .FloorDiv) (rI Gz λi j=>.int (i/j)):=GE λi j _ _ _ _ _ hc q=>by
 have h1:(0:Int)<j:=hc.1;exact floordiv_int ⋯ (by rw[Int.fdiv_eq_ediv_of_nonneg i ⋯];exact q) (.inl (PyProof.noPylong_of_log2 hc.2))
end
noncomputable def oK(rss tss:List (List V)):Bool:=if rss.length=tss.length then(List.range rss.length).all (λj=>match rss[j]?,tss[j]? with | some x,some y=>jV x y | _,_=>true) else false
noncomputable def F0(K:K5)(H:Hp)(l:Addr)(rss:List (List V)):Prop:=∃bs:List Addr,aS K H l (bs.map V.ref)/\bs.length=rss.length/\∀(i:Nat) b r,bs[i]?=some b->rss[i]?=some r->bh K H b r/\r.all ja=true
theorem su{xs:List V}(h:xs.all ja=true):jV xs xs=true:=by
 unfold jV;rw[Bool.and_eq_true,KR];refine⟨λj hj=>?_,by simp⟩;have hj:=List.mem_range.mp hj;rw[J7 ⋯];dsimp only;have hf:=KR.mp h _ (Kf (show j<xs.length by omega));generalize xs[j]'⋯=x at hf;cases x<;>simp_all [ja,qd]
section
variable {X:Cx}{pins:K6}{σ:St}{H:Hp}{s:K8}{A:Lf}
theorem EA(I:Inv X pins σ H s){a b:Addr}{xs ys:List V}(hu:A.units<cLine)(ha:bh X.K H a xs)(hb:bh X.K H b ys)(fx:xs.all ja=true)(fy:ys.all ja=true):SeqAt.EqAt A s (.ref a) (.ref b) (jV xs ys):=by
 by_cases hab:a=b
 ·subst hab
  rw[I.tuple_inj ha hb,su fy];exact SeqAt.EqAt.same _
 obtain⟨its,ra,pa,_⟩:=I.tuple ha;obtain⟨its2,rb,pb,_⟩:=I.tuple hb;have l1:=ra.length;have l2:=rb.length
 have q':=SeqAt.RcAt.tuples (A:=A) (s:=s) (e:=λj=>match xs[j]?,ys[j]? with | some x,some y=>qd x y | _,_=>true) (show s.heap.IsTuple a its.toArray from pa) (show s.heap.IsTuple b its2.toArray from pb) hu (λj g1 g2=>by
  have g1':j<its.length:=by simpa using g1
  have g2':j<its2.length:=by simpa using g2
  have x1:xs[j]?=some xs[j]:=J7 ⋯;have y1:ys[j]?=some ys[j]:=J7 ⋯;obtain⟨w1,f1,rr1⟩:=ra.get x1;obtain⟨w2,f2,rr2⟩:=rb.get y1;rw[J7 g1']at f1;rw[J7 g2']at f2;cases f1;cases f2
  simp only[KU,x1,y1];exact gj rr1 rr2 (KR.mp fx _ (Kb x1)) (KR.mp fy _ (Kb y1)))
 rw[Ke,Ke,<- l1,<- l2]at q';exact SeqAt.EqAt.of_refs hab q'
theorem sw{rss:List (List V)}(h:∀r∈rss,r.all ja=true):oK rss rss=true:=by
 unfold oK;rw[if_pos rfl,KR];intro j hj;have hj:=List.mem_range.mp hj;rw[J7 hj];exact su (h _ (Kf hj))
theorem F8(I:Inv X pins σ H s){a b:Addr}{rss tss:List (List V)}(hu:A.units+1<cLine)(ha:F0 X.K H a rss)(hb:F0 X.K H b tss):SeqAt.EqAt A s (.ref a) (.ref b) (oK rss tss):=by
 obtain⟨as,ha1,ha2,ha3⟩:=ha;obtain⟨bs,hb1,hb2,hb3⟩:=hb
 by_cases hab:a=b
 ·subst hab
  have e:=I.list_inj ha1 hb1;have e2:as=bs:=by
   have:as.map V.ref=bs.map V.ref:=e;clear e ha1 ha2 ha3 hb1 hb2 hb3
   induction as generalizing bs with
   |nil=>cases bs with
    |nil=>rfl
    |cons _ _=>cases this
   |cons x as ih=>cases bs with
    |nil=>cases this
    |cons y bs=>
     rw[KC,KC]at this
     injection this with h1 h2
     injection h1 with h1
     rw[h1,ih bs h2]
  subst e2;have e3:rss=tss:=by
   apply List.ext_getElem
   ·omega
   ·intro i i1 i2
    have h1:=ha3 i _ _ (J7 (by omega:i<as.length)) (J7 i1);have h2:=hb3 i _ _ (J7 (by omega:i<as.length)) (J7 i2);exact I.tuple_inj h1.1 h2.1
  subst e3;rw[sw λr hr=>by
   obtain⟨i,hi⟩:=List.getElem?_of_mem hr;exact(ha3 i _ _ (J7 (by rw[ha2];exact(J8.mp hi).1)) hi).2]
  exact SeqAt.EqAt.same _
 obtain⟨its,ra,pa,_⟩:=I.list ha1;obtain⟨its2,rb,pb,_⟩:=I.list hb1;have l1:=ra.length;have l2:=rb.length
 rw[J_]at l1 l2;unfold oK
 by_cases hl:rss.length=tss.length
 ·rw[if_pos hl]
  have q:=SeqAt.RcAt.lists (A:=A) (s:=s) (e:=λj=>match rss[j]?,tss[j]? with | some x,some y=>jV x y | _,_=>true) pa.isList pb.isList (by simp;omega) ⋯ λj g1 g2=>by
   have g1':j<its.length:=by simpa using g1
   have g2':j<its2.length:=by simpa using g2
   have x1:(as.map V.ref)[j]?=some (V.ref (as[j]'⋯)):=by rw[Ka,J7 ⋯];rfl
   have y1:(bs.map V.ref)[j]?=some (V.ref (bs[j]'⋯)):=by rw[Ka,J7 ⋯];rfl
   obtain⟨w1,f1,rr1⟩:=ra.get x1;obtain⟨w2,f2,rr2⟩:=rb.get y1;rw[J7 g1']at f1;rw[J7 g2']at f2;cases f1;cases f2
   have r1:rss[j]?=some (rss[j]'⋯):=J7 _;have t1:tss[j]?=some (tss[j]'⋯):=J7 _;obtain⟨h1,h2⟩:=ha3 j _ _ (J7 ⋯) r1;obtain⟨h3,h4⟩:=hb3 j _ _ (J7 ⋯) t1;simp only[KU];rw[show its[j]=Value.ref (as[j]'⋯) from rr1,show its2[j]=Value.ref (bs[j]'⋯) from rr2,r1,t1];exact EA I (by show A.units+1<cLine;exact hu) h1 h3 h2 h4
  rw[Ke,<- l1,ha2]at q;exact SeqAt.EqAt.of_refs hab q
 ·rw[if_neg hl]
  exact SeqAt.EqAt.of_refs hab (SeqAt.RcAt.lists_lengths (A:=A) (s:=s) pa.isList pb.isList (by simp;omega) ⋯)
end
section
variable {X:Cx}
noncomputable def FU(K:K5):R2:=λx y H Q=>∃a b i j la lb rss tss,x=.ref a/\y=.ref b/\bh K H a [.int i,.ref la]/\bh K H b [.int j,.ref lb]/\F0 K H la rss/\F0 K H lb tss/\Q (.bl (decide (i=j)&&oK rss tss)) H
theorem Ft(hu:X.A.units+64<cLine):bd X (compareOp .Eq) (FU X.K):=by
 intro pins s σ H x y v u Q I rx ry h;obtain⟨a,b,i,j,la,lb,rss,tss,rfl,rfl,ha,hb,hla,hlb,q⟩:=h;cases rx;cases ry
 obtain⟨its,ra,pa,_⟩:=I.tuple ha;obtain⟨its2,rb,pb,_⟩:=I.tuple hb;cases ra with
 |cons q1 ra=>
 cases ra with
 |cons q2 ra=>
 cases ra;cases rb with
 |cons p1 rb=>
 cases rb with
 |cons p2 rb=>
 cases rb;obtain⟨t1,rfl⟩:=q1;obtain⟨t2,rfl⟩:=p1;obtain rfl:=q2;obtain rfl:=p2;have q':=SeqAt.RcAt.tuples (A:=X.A) (s:=s) (e:=λk=>if k=0 then decide (i=j) else oK rss tss) (show s.heap.IsTuple a _ from pa) (show s.heap.IsTuple b _ from pb) ⋯ (λk g1 g2=>by
  have g1':k<2:=by simpa using g1
  match k,g1' with
  |0,_=>
   have h1:bq (V.int i) (.int i t1):=⟨t1,rfl⟩;have h2:bq (V.int j) (.int j t2):=⟨t2,rfl⟩;have:=gj (A:=X.A.in1) (s:=s) h1 h2 rfl rfl;rw[show qd (V.int i) (V.int j)=decide (i=j) by simp[qd];rfl]at this;exact this
  |1,_=>exact F8 I (by show X.A.units+1+1<cLine;omega) hla hlb)
 refine q' _ _ _ _ ⟨.bl _,H,I,rfl,?_⟩;have e:(((List.range (min [Value.int i t1,Value.ref la].toArray.size [Value.int j t2,Value.ref lb].toArray.size)).all λk=>if k=0 then decide (i=j) else oK rss tss)&&[Value.int i t1,Value.ref la].toArray.size==[Value.int j t2,Value.ref lb].toArray.size)=(decide (i=j)&&oK rss tss):=by
  show(([0,1].all λk=>if k=0 then decide (i=j) else oK rss tss)&&true)=_;simp
 rw[e];exact q
end
section
variable {prog:Ld}{w:Lg}{A:Lf}{E:K4}{s:K8}
theorem xy{j t:Addr}{n:Nat}{its}{x:Value}{Q:K4}(hj:s.heap.IsTupleIter j t n)(ht:s.heap.IsTuple t its)(hx:its[n]?=some x)
  (q:∀h',h'.IsTupleIter j t (n+1)->Heap.SameBut j s.heap h'->Q x {s with heap:=h' }):wpAny (model prog w) A (Builtin.SmallTypes.nextOf (.ref j)) Q E s:=by
 obtain⟨oj,ej,cj,dj⟩:=id hj;obtain⟨ot,et,_,m,dt⟩:=ht
 unfold Builtin.SmallTypes.nextOf;refine wpAny_bind (wpAny_callSpecial?_slot (name:=Str.ofString "__next__") hj.typeIs F.slot_tuple_iterator_next (wpAny_call_entry F.slot_tuple_iterator_next hj.typeIs F.entry_tuple_iterator_next ?_ (F.args_tuple_iterator_next_1 _)))
 show wpAny _ _ (field (.ref j) 0 >>= _) _ _ s;refine wpAny_bind (wpAny_field ej dj (x:=.ref t) rfl ?_)
 show wpAny _ _ (if(Value.ref t==Value.none)=true then _ else _) _ _ s;rw[if_neg (show ¬ ((Value.ref t==Value.none)=true) from Kx)]
 show wpAny _ _ (field (.ref j) 1 >>= _) _ _ s;refine wpAny_bind (wpAny_field ej dj (x:=.int n 0) rfl ?_)
 show wpAny _ _ (seqItems? (.ref t) >>= _) _ _ s;refine wpAny_bind (wpAny_seqItems et dt ?_)
 simp only[Kg,hx];refine wpAny_bind (wpAny_setField ej dj (by simp) (wpAny_pure ⟨x,rfl,wpAny_pure (q _ ?_ (Heap.SameBut.update ..))⟩))
 exact⟨_,Kh _ ej (Obj.isFreed_of_fields (Obj.data_mapFields dj _)),(Obj.cls_mapFields ..).trans cj,by rw[Obj.data_mapFields dj];simp[rawInt]⟩
theorem xR{z TI TO i1 i2 l t:Addr}{k n:Nat}{xs ys:Array Value}{x y a b:Value}{Q:Option Value->Shared->Prop}(D:ZipApart z TI TO i1 i2 l t)(z0:IsZip s.heap z TI TO .none)(p0:IsPair s.heap TI (.ref i1) (.ref i2))(o0:IsPair s.heap TO a b)
  (j1:s.heap.IsListIter i1 l k) (j2:s.heap.IsTupleIter i2 t n) (hl:s.heap.IsList l xs) (ht:s.heap.IsTuple t ys) (hx:xs[k]?=some x) (hy:ys[n]?=some y)
  (q:∀h',IsZip h' z TI TO (rawInt s.heap.objs.size)->IsPair h' TO x y->h'.IsListIter i1 l (k+1)->h'.IsTupleIter i2 t (n+1)->IsPair h' s.heap.objs.size x y->(∀c o,c≠z->c≠TO->c≠i1->c≠i2->s.heap.get? c=some o->h'.get? c=some o)->Q (some (.ref s.heap.objs.size)) {s with heap:=h' }) :
  wpAny (model prog w) A (pyNext (.ref z)) Q E s:=by
 have ty:s.TypeIs (.ref z) "zip":=⟨_,z0,rfl⟩;unfold pyNext;refine wpAny_bind (wpAny_attempt (wpAny_callSpecial?_slot (name:=Str.ofString "__next__") ty F.slot_zip_next (wpAny_call_entry F.slot_zip_next ty F.entry_zip_next ?_ (F.args_zip_next_1 _))))
 show wpAny _ _ (field (.ref z) 2 >>= _) _ _ s;refine wpAny_bind (wpAny_field z0 rfl (x:=.bool false) rfl ?_)
 show wpAny _ _ (field (.ref z) 3 >>= _) _ _ s;refine wpAny_bind (wpAny_field z0 rfl (x:=.ref TI) rfl (wpAny_bind (wpAny_seqItems p0 rfl ?_)))
 show wpAny _ _ (Builtin.SmallTypes.ownedTupleIsFree (.ref z) >>= _) _ _ s;refine wpAny_bind ?_;unfold Builtin.SmallTypes.ownedTupleIsFree;refine wpAny_bind (wpAny_field z0 rfl (x:=.none) rfl (wpAny_pure ?_))
 simp only[if_true];refine wpAny_bind (wpAny_rule (wpAny_bind (wpAny_field z0 rfl (x:=.ref TO) rfl ?_)))
 refine wpAny_bind (wpAny_setField_rec z0 (by simp) λg1 z1 s1=>?_);replace z1:IsZip g1 z TI TO .ellipsis:=z1
 refine wpAny_bind ?_;simp only[List.zipIdx_cons,List.zipIdx_nil,List.forIn_cons,List.forIn_nil];refine wpAny_bind (wpAny_bind (wpAny_onRaise ?_))
 show wpAny _ _ (Builtin.SmallTypes.nextOf (.ref i1) >>= _) _ _ _;refine wpAny_bind (wpAny_nextOf_list_item (j1.extBut s1.extBut D.i1z) (hl.extBut s1.extBut D.l1z) hx λg2 j12 s2=>wpAny_pure ?_)
 have o2:IsPair g2 TO a b:=s2.extBut _ _ D.TOi1 (s1.extBut _ _ D.TOz o0);refine wpAny_bind (wpAny_seqItems o2 rfl (wpAny_bind (wpAny_updateSeq_pair o2 λg3 o3 s3=>?_)));replace o3:IsPair g3 TO x b:=o3
 refine wpAny_bind (wpAny_letGo (wpAny_pure (wpAny_bind (wpAny_bind (wpAny_onRaise ?_)))));show wpAny _ _ (Builtin.SmallTypes.nextOf (.ref i2) >>= _) _ _ _;refine wpAny_bind (xy (((j2.extBut s1.extBut D.i2z).extBut s2.extBut D.i12.symm).extBut s3.extBut D.TOi2.symm) (((ht.extBut s1.extBut D.l2z).extBut s2.extBut D.l2i1).extBut s3.extBut D.l2TO) hy λg4 j24 s4=>wpAny_pure ?_);have o4:IsPair g4 TO x b:=s4.extBut _ _ D.TOi2 o3;refine wpAny_bind (wpAny_seqItems o4 rfl (wpAny_bind (wpAny_updateSeq_pair o4 λg5 o5 s5=>?_)));replace o5:IsPair g5 TO x y:=o5
 refine wpAny_bind (wpAny_letGo (wpAny_pure (wpAny_pure (wpAny_bind (wpAny_seqItems o5 rfl (wpAny_bind (wpAny_newTuple ?_)))))));have sz:g5.objs.size=s.heap.objs.size:=by rw[s5.1,s4.1,s3.1,s2.1,s1.1]
 have z5:IsZip g5 z TI TO .ellipsis:=s5.extBut _ _ D.TOz.symm (s4.extBut _ _ D.i2z.symm (s3.extBut _ _ D.TOz.symm (s2.extBut _ _ D.i1z.symm z1)));have k5:∀c o,c≠z->c≠TO->c≠i1->c≠i2->s.heap.get? c=some o->g5.get? c=some o:=λc o c1 c2 c3 c4 e=>s5.extBut _ _ c2 (s4.extBut _ _ c4 (s3.extBut _ _ c2 (s2.extBut _ _ c3 (s1.extBut _ _ c1 e))));have j15:g5.IsListIter i1 l (k+1):=((j12.extBut s3.extBut D.TOi1.symm).extBut s4.extBut D.i12).extBut s5.extBut D.TOi1.symm;have j25:g5.IsTupleIter i2 t (n+1):=j24.extBut s5.extBut D.TOi2.symm;have zl:z<g5.objs.size:=Ky z5;show wpAny _ _ (Builtin.SmallTypes.ownedTupleHandOut (.ref z) (.ref g5.objs.size) >>= _) _ _ _;refine wpAny_bind ?_;unfold Builtin.SmallTypes.ownedTupleHandOut
 have z6:IsZip (g5.push {cls:=.type "tuple",data:=.seq #[x,y]}) z TI TO .ellipsis:=J9 _ z5;refine wpAny_bind (wpAny_setField_rec z6 (by simp) λg7 z7 s7=>?_);replace z7:IsZip g7 z TI TO (rawInt g5.objs.size):=z7
 refine wpAny_setField_rec z7 (by simp) λg8 z8 s8=>?_;replace z8:IsZip g8 z TI TO (rawInt g5.objs.size):=z8
 have up:∀c o,c≠z->g5.get? c=some o->g8.get? c=some o:=λc o c1 e=>s8.extBut _ _ c1 (s7.extBut _ _ c1 (J9 _ e));have t8:IsPair g8 g5.objs.size x y:=s8.extBut _ _ (Nat.ne_of_gt zl) (s7.extBut _ _ (Nat.ne_of_gt zl) (Kd _ rfl));rw[sz]at z8 t8;refine wpAny_pure ⟨_,rfl,wpAny_pure ?_⟩;show Q (some (.ref g5.objs.size)) _;rw[sz];exact q g8 z8 (up _ _ D.TOz o5) (j15.at λo e=>up _ o D.i1z e) (let ⟨o,e,r⟩:=j25;⟨o,up _ o D.i2z e,r⟩) t8 λc o c1 c2 c3 c4 e=>up c o c1 (k5 c o c1 c2 c3 c4 e)
theorem Aq{z TI TO i1 i2 l:Addr}{k:Nat}{xs:Array Value}{a b:Value}{Q:Option Value->Shared->Prop}(hh:A.handled=none)(n1:i1≠z)(n2:l≠z)(n3:TO≠z)(z0:IsZip s.heap z TI TO .none)(p0:IsPair s.heap TI (.ref i1) (.ref i2))(o0:IsPair s.heap TO a b)
  (j1:s.heap.IsListIter i1 l k) (hl:s.heap.IsList l xs) (hx:xs[k]?=none) (q:∀h',(∀c o,c≠z->c≠TO->c≠i1->c≠i2->s.heap.get? c=some o->h'.get? c=some o)->Q none {s with heap:=h' }):wpAny (model prog w) A (pyNext (.ref z)) Q E s:=by
 have ty:s.TypeIs (.ref z) "zip":=⟨_,z0,rfl⟩;unfold pyNext;refine wpAny_bind (wpAny_attempt (wpAny_callSpecial?_slot (name:=Str.ofString "__next__") ty F.slot_zip_next (wpAny_call_entry F.slot_zip_next ty F.entry_zip_next ?_ (F.args_zip_next_1 _))))
 show wpAny _ _ (field (.ref z) 2 >>= _) _ _ s;refine wpAny_bind (wpAny_field z0 rfl (x:=.bool false) rfl ?_)
 show wpAny _ _ (field (.ref z) 3 >>= _) _ _ s;refine wpAny_bind (wpAny_field z0 rfl (x:=.ref TI) rfl (wpAny_bind (wpAny_seqItems p0 rfl ?_)))
 show wpAny _ _ (Builtin.SmallTypes.ownedTupleIsFree (.ref z) >>= _) _ _ s;refine wpAny_bind ?_;unfold Builtin.SmallTypes.ownedTupleIsFree;refine wpAny_bind (wpAny_field z0 rfl (x:=.none) rfl (wpAny_pure ?_))
 simp only[if_true];refine wpAny_bind (wpAny_rule (wpAny_bind (wpAny_field z0 rfl (x:=.ref TO) rfl ?_)))
 refine wpAny_bind (wpAny_setField_rec z0 (by simp) λg1 z1 s1=>?_);replace z1:IsZip g1 z TI TO .ellipsis:=z1
 refine wpAny_bind ?_;simp only[List.zipIdx_cons,List.zipIdx_nil,List.forIn_cons,List.forIn_nil];refine wpAny_bind (wpAny_bind (wpAny_onRaise ?_))
 show wpAny _ _ (Builtin.SmallTypes.nextOf (.ref i1) >>= _) _ _ _;refine wpAny_bind (wpAny_nextOf_list_end hh (j1.extBut s1.extBut n1) (hl.extBut s1.extBut n2) hx λg2 e s2 he=>?_)
 obtain⟨oe,hoe,hce⟩:=he;have z2:IsZip g2 z TI TO .ellipsis:=s2 _ _ n1.symm z1;have ez:e≠z:=λu=>by subst u;rw[z2]at hoe;cases hoe;simp at hce
 refine wpAny_setField_rec z2 (by simp) λg3 _ s3=>?_;have he3:g3.get? e=some oe:=s3.extBut _ _ ez hoe;refine wpAny_bind (wpAny_isInstance (T:="StopIteration") (b:=true) ⟨oe,he3,hce⟩ isSubtype_stop (wpAny_pure (q _ λc o c1 _ c3 _ u=>s3.extBut _ _ c1 (s2 _ _ c3 (s1.extBut _ _ c1 u)))))
noncomputable def Be(h:Heap)(l t:Addr):Heap:=((((h.push {cls:=.type "list_iterator",data:=.fields #[.ref l,.int 0 0]}).push {cls:=.type "tuple_iterator",data:=.fields #[.ref t,.int 0 0]}).push {cls:=.type "tuple",data:=.seq #[.ref h.objs.size,.ref (h.objs.size+1)]}).push {cls:=.type "tuple",data:=.seq #[.none,.none]}).push {cls:=.type "zip",data:=.fields #[.none,.bool false,.bool false,.ref (h.objs.size+2),.ref (h.objs.size+3)]}
theorem wf(l t:Addr)(xs ys:Array Value):Meets (Builtin.«zip.__new__» ⟨[.type "zip",.ref l,.ref t],[]⟩) (λ_ R s=>s.heap.IsList l xs/\s.heap.IsTuple t ys/\R (.ok (.ret (.ref (s.heap.objs.size+4)))) {s with heap:=Be s.heap l t}):=
 .of_wp λprog w A R s h=>by
  obtain⟨hp,g,d,tk,os⟩:=s;obtain⟨h1,h2,h⟩:=h
  have hsub:isSubtype (.type "zip") (.type "zip")=pure true:=by rw[isSubtype_type];kernel_rfl
  have e1:Heap.IsList (Shared.heap ⟨hp,g,d,tk,os⟩) l xs:=h1;have e2:Heap.IsTuple (Shared.heap ⟨hp.push {cls:=.type "list_iterator",data:=.fields #[.ref l,.int 0 0]},g,d,tk,os⟩) t ys:=Heap.IsTuple.push h2 _
  wp_walk using wpAny_pyIter_list e1,wpAny_pyIter_tuple e2
  refine⟨_,rfl,?_⟩;simp only[Heap.size_push]at *;exact h
theorem xj{l t:Addr}{xs ys:Array Value}{Q:K4}(hl:s.heap.IsList l xs)(ht:s.heap.IsTuple t ys)
  (q:∀h',IsZip h' (s.heap.objs.size+4) (s.heap.objs.size+2) (s.heap.objs.size+3) .none->IsPair h' (s.heap.objs.size+2) (.ref s.heap.objs.size) (.ref (s.heap.objs.size+1))->IsPair h' (s.heap.objs.size+3) .none .none->h'.IsListIter s.heap.objs.size l 0->h'.IsTupleIter (s.heap.objs.size+1) t 0->(∀c o,s.heap.get? c=some o->h'.get? c=some o)->Q (.ref (s.heap.objs.size+4)) {s with heap:=h' }) :
  wpAny (model prog w) A (call (.type "zip") [.ref l,.ref t]) Q E s:=by
 refine callType_new F.called_zip nofun (F.typeCall_zip_2 _ _) (F.newCall_zip_2 _ _) (λobj=>F.args_object_init_3 obj _ _) F.entry_zip_new (wf l t xs ys) ⟨hl,ht,?_⟩;have at0:∀{h:Heap} {n:Nat} {o:Obj},h.objs.size=n->o.isFreed=false->(h.push o).get? n=some o:=λe f=>by rw[<- e];exact Kd _ f
 have up:=fun{h:Heap} {c:Addr} {u:Obj} (o:Obj) (e:h.get? c=some u)=>J9 o e;have g5:(Be s.heap l t).get? (s.heap.objs.size+4)=some _:=at0 (by simp only[Heap.size_push]) rfl;have g4:(Be s.heap l t).get? (s.heap.objs.size+3)=some _:=up _ (at0 (by simp only[Heap.size_push]) rfl);have g3:(Be s.heap l t).get? (s.heap.objs.size+2)=some _:=up _ (up _ (at0 (by simp only[Heap.size_push]) rfl));have g2:(Be s.heap l t).get? (s.heap.objs.size+1)=some _:=up _ (up _ (up _ (at0 (by simp only[Heap.size_push]) rfl)));have g1:(Be s.heap l t).get? s.heap.objs.size=some _:=up _ (up _ (up _ (up _ (at0 rfl rfl))));exact⟨⟨_,g5,rfl⟩,q _ g5 g3 g4 ⟨_,g1,rfl,rfl⟩ ⟨_,g2,rfl,rfl⟩ λc o u=>up _ (up _ (up _ (up _ (up _ u))))⟩
end
noncomputable def ET(K:K5)(a b:Addr):It:=
 ⟨λi H=>∃xs ys x y,aS K H a xs/\bh K H b ys/\xs[i]?=some x/\ys[i]?=some y,λi H v H'=>∃T x y,v=.ref T/\H T=none/\H'=ax H T (.tup [x,y])/\(∀xs,aS K H a xs->xs[i]?=some x)/\∀ys,bh K H b ys->ys[i]?=some y,
  λi H=>∃xs,aS K H a xs/\xs.length<=i⟩
theorem Bf{P:Ld}{w:Lg}{K:K5}{elts:Li}{x1:Nat}{tp:Pos}{z TI TO i1 i2 l1 l2:Addr}(D:ZipApart z TI TO i1 i2 l1 l2) :
  pk P w K (.Tuple elts x1 tp) (ET K l1 l2) [z,TI,TO,i1,i2] z (λi h=>IsZip h z TI TO .none/\IsPair h TI (.ref i1) (.ref i2)/\(∃a b,IsPair h TO a b)/\h.IsListIter i1 l1 i/\h.IsTupleIter i2 l2 i) where
 mem:=by simp
 obj:=λi h st b hb=>by
  obtain⟨hz,hTI,⟨a,c,hTO⟩,⟨o1,e1,c1,d1⟩,⟨o2,e2,c2,d2⟩⟩:=st;simp only[Km,List.not_mem_nil,or_false]at hb;rcases hb with rfl | rfl | rfl | rfl | rfl
  ·exact⟨_,hz,λv q=>by cases q⟩
  ·exact⟨_,hTI,λv q=>by cases q⟩
  ·exact⟨_,hTO,λv q=>by cases q⟩
  ·exact⟨_,e1,λv q=>by rw[d1]at q;cases q⟩
  ·exact⟨_,e2,λv q=>by rw[d2]at q;cases q⟩
 keep:=λi h h' st hk=>by
  obtain⟨hz,hTI,⟨a,b,hTO⟩,h1,⟨o2,e2,r2⟩⟩:=st;exact⟨hk z (by simp) _ hz,hk TI (by simp) _ hTI,⟨a,b,hk TO (by simp) _ hTO⟩,h1.at λo e=>hk i1 (by simp) o e,⟨o2,hk i2 (by simp) o2 e2,r2⟩⟩
 item:=by
  intro X hP hw hK hc i pins s σ H E I hf st hg;subst hP hw hK;obtain⟨xs,ys,x,y,hq1,hq2,hx,hy⟩:=hg;obtain⟨its1,rv1,p1,hz1⟩:=I.list hq1;obtain⟨its2,rv2,p2,hz2⟩:=I.tuple hq2;obtain⟨u1,hu1,ru1⟩:=rv1.get hx;obtain⟨u2,hu2,ru2⟩:=rv2.get hy;obtain⟨hz,hTI,⟨a,b,hTO⟩,h1,h2⟩:=st;refine xR D hz hTI hTO h1 h2 p1.isList (show s.heap.IsTuple l2 its2.toArray from p2) (x:=u1) (y:=u2) (by simpa using hu1) (by simpa using hu2) λh' a1 a2 a3 a4 a5 hk=>?_;refine⟨_,rfl,wpAny_letOwnedTupleGo_zip a1 λh2' hz' hs'=>?_⟩;have hfree:H s.heap.objs.size=none:=I.hok.fresh (Kv _);have lt:∀{c o},s.heap.get? c=some o->s.heap.objs.size≠c:=λe=>Nat.ne_of_gt (Ky e);have kk:∀c o,c∉[z,TI,TO,i1,i2]->s.heap.get? c=some o->h2'.get? c=some o:=λc o hc e=>
   hs'.extBut _ _ (λq=>hc (by simp[q])) (hk c o (λq=>hc (by simp[q])) (λq=>hc (by simp[q])) (λq=>hc (by simp[q])) (λq=>hc (by simp[q])) e)
  have hT:h2'.get? s.heap.objs.size=some {cls:=.type "tuple",data:=.seq #[u1,u2]}:=hs'.extBut _ _ (lt hz) a5;refine⟨.ref s.heap.objs.size,ax H s.heap.objs.size (.tup [x,y]),I.movedT (tk:=s.toks) hf kk (Kv _) ⟨show 2<=sizeLine from by decide +kernel,[u1,u2],.cons ru1 (.cons ru2 .nil),_,hT,rfl,_,rfl⟩,rfl,
   ⟨_,x,y,rfl,hfree,rfl,λzs hzs=>by rw[I.list_inj hzs hq1];exact hx,λzs hzs=>by rw[I.tuple_inj hzs hq2];exact hy⟩,
   ⟨hz',hs'.extBut _ _ D.TIz (hk _ _ D.TIz D.TITO D.TIi1 D.TIi2 hTI),⟨_,_,hs'.extBut _ _ D.TOz a2⟩,a3.extBut hs'.extBut D.i1z,a4.extBut hs'.extBut D.i2z⟩,λb hb=>?_⟩
  have hlt:b≠s.heap.objs.size:=by
   obtain⟨o1,e1,_⟩:=h1;obtain⟨o2,e2,_⟩:=h2;simp only[Km,List.not_mem_nil,or_false]at hb;rcases hb with rfl | rfl | rfl | rfl | rfl
   ·exact(lt hz).symm
   ·exact(lt hTI).symm
   ·exact(lt hTO).symm
   ·exact(lt e1).symm
   ·exact(lt e2).symm
  rw[ao hlt];exact(hf b hb).1
 done:=by
  intro X hP hw hK hc i pins s σ H E I hf st hg;subst hP hw hK;obtain⟨xs,hq1,hx⟩:=hg;obtain⟨its1,rv1,p1,hz1⟩:=I.list hq1;obtain⟨hz,hTI,⟨a,b,hTO⟩,h1,h2⟩:=st;have l1':=rv1.length;exact Aq (I.ok.hd hc) D.i1z D.l1z D.TOz hz hTI hTO h1 p1.isList (by simp;omega) λh' hk=>⟨rfl,I.moved (tk:=s.toks) hf λc o hc e=>hk c o (λq=>hc (by simp[q])) (λq=>hc (by simp[q])) (λq=>hc (by simp[q])) (λq=>hc (by simp[q])) e⟩
 self:=λ_ _ _ _ _ st h=>wpAny_pyIter_zip st.1 h
section
variable {X:Cx}{elts:Li}{x1:Nat}{tp:Pos}
noncomputable def Dr(K:K5)(ta:TA):TI:=λσ H R=>ta σ H λvs H1=>∃a b xs ys,vs=[.ref a,.ref b]/\aS K H1 a xs/\bh K H1 b ys/\R (ET K a b) H1
theorem DX{a b:Expr}{ta:TA}{p pos:Pos}(hg:Gl X "zip")(hm:X.mg "zip"=none)(ha:PA X [a,b] ta)(hs:autoParam (starEach [a,b] X.env=[(false,eval a X.env),(false,eval b X.env)]) zz0._auto_1)(hs2:autoParam (starEach [b] X.env=[(false,eval b X.env)]) zz0._auto_1):PI X (.Tuple elts x1 tp) (.Call (.Name "zip" p) [a,b] [] pos) (Dr X.K ta):=by
 intro pins s σ H R I h;refine Call_ (e_ I hg hm boot_zip (PyProof.Rows.callWith_type1 (bZ (ha pos pins s σ H _ I h) λus s1 ⟨vs,H1,I1,r1,q1⟩=>?_) (by rw[hs,hs2]) (by rw[hs2];rfl)));obtain⟨l1,l2,xs,ys,rfl,hq1,hq2,q⟩:=q1;obtain⟨u,v,rfl,ru,rv⟩:=r1.two;cases ru;cases rv;obtain⟨its1,rv1,p1,_⟩:=I1.list hq1;obtain⟨its2,rv2,p2,_⟩:=I1.tuple hq2;have pt:s1.heap.IsTuple l2 its2.toArray:=p2;refine xj p1.isList pt λh' z1 z2 z3 z4 z5 hk=>?_;have lt1:l1<s1.heap.objs.size:=by obtain⟨_,e,_⟩:=p1.isList;exact Ky e
 have lt2:l2<s1.heap.objs.size:=by obtain⟨_,e,_⟩:=pt;exact Ky e
 have I2:Inv X pins σ H1 {s1 with heap:=h' }:=I1.kept (t':=s1.toks) hk;refine wpAny_pyIter_zip z1 ?_;refine⟨s1.heap.objs.size+4,[s1.heap.objs.size+4,s1.heap.objs.size+2,s1.heap.objs.size+3,s1.heap.objs.size,s1.heap.objs.size+1],_,_,H1,rfl,I2,Bf (l1:=l1) (l2:=l2) ?_,⟨z1,z2,⟨_,_,z3⟩,z4,z5⟩,λb hb=>?_,q⟩
 ·exact sv _ _ _ lt1 lt2
 ·have hb':s1.heap.objs.size<=b:=by
   simp only[Km,List.not_mem_nil,or_false]at hb;rcases hb with e | e | e | e | e<;>(rw[e];first | exact Kv _ | exact Nat.le_add_right _ _)
  exact I1.fpOk hb' (I1.hok.fresh hb')
end
section
variable {K:K5}{g:TG}{tb:TS}{D:iK}{σ:St}{H:Hp}
theorem Bc{a b:Addr}{xs ys:List V}(hlen:xs.length<=ys.length)(Pv:Nat->St->Hp->Prop)(h0:Pv 0 σ H)(hl:∀i σ H,i<=xs.length->Pv i σ H->aS K H a xs/\bh K H b ys)
  (hs:∀i x y σ H T,xs[i]?=some x->ys[i]?=some y->Pv i σ H->H T=none->g (.ref T) σ (ax H T (.tup [x,y])) λσ2 H2=>tb {D with nx:=Pv (i+1),ct:=Pv (i+1),bk:=D.nx} σ2 H2) (hd:∀σ H,Pv xs.length σ H->D.nx σ H):uS (ET K a b) g tb D σ H:=by
 refine⟨λi m σ H=>Pv i σ H/\i<=xs.length/\m=xs.length+1-i,⟨_,h0,Kw _,rfl⟩,?_⟩;rintro i m σ' H' ⟨w,hi,rfl⟩;obtain⟨q1,q2⟩:=hl _ _ _ hi w;rcases Nat.lt_or_ge i xs.length with hlt | hge
 ·refine .inr ⟨⟨xs,ys,xs[i],ys[i]'⋯,q1,q2,J7 hlt,J7 ⋯⟩,Pv (i+1),λσ2 H2 w2=>⟨xs.length+1-(i+1),⋯,w2,hlt,rfl⟩,λx H2 y=>?_⟩
  obtain⟨T,x',y',rfl,hT,rfl,hx,hy⟩:=y;exact hs i x' y' σ' H' T (hx xs q1) (hy ys q2) w hT
 ·have:i=xs.length:=by omega
  subst this;exact .inl ⟨⟨xs,q1,Kv _⟩,hd _ _ w⟩
end
section
variable {X:Cx}{es:Li}{te:TE}
end
end L2
set_option maxHeartbeats 4000000
namespace Q36
open PySem L2 bF QL
local macro_rules|`(tactic|walk_at "a")=>`(tactic|with_reducible assumption)

local macro_rules|`(tactic|omega)=>`(tactic|first|walk_at "a"|with_reducible decide|exact Nat.le_of_lt (by walk_at "a")|exact Nat.le_trans (by walk_at "a") (by with_reducible decide)|exact Nat.lt_of_lt_of_le (by walk_at "a") (by with_reducible decide)|exact Nat.lt_of_le_of_lt (by walk_at "a") (by with_reducible decide)|exact Nat.lt_of_lt_of_le (by walk_at "a") (by walk_at "a")|exact Nat.lt_of_le_of_lt (by walk_at "a") (by walk_at "a")|exact Nat.le_trans (by walk_at "a") (by walk_at "a")|exact Nat.succ_le_of_lt (by walk_at "a")|with_reducible exact Nat.le_trans (Nat.le_of_eq (by walk_at "a")) (by walk_at "a")|with_reducible exact Nat.le_trans (Nat.le_of_eq (Eq.symm (by walk_at "a"))) (by walk_at "a")|with_reducible exact Int.natCast_nonneg _|with_reducible exact Nat.zero_le _|omega +splitDisjunctions)
local macro_rules|`(tactic|walk_at "wp")=>do
 let f(s:String):Lean.MacroM _:=(s.splitOn ",").toArray.mapM λx=>let i:=Lean.mkIdent (x.splitOn "."|>.foldl .mkStr .anonymous);`(Lean.Parser.Tactic.simpLemma|$i:term)
 let g(s:String):Lean.MacroM _:=(s.splitOn ",").toArray.mapM λx=>let i:=Lean.mkIdent (x.splitOn "."|>.foldl .mkStr .anonymous);`(Lean.Parser.Tactic.simpLemma|↓$i:term)
 let c:="Aa,tB,CB,DB,Fd,Cj,B3,wA,AJ,BZ,yu,D9,tC,F6,v_,Ff,EX,G9,Cw,BI,sX,tf,s_,Dh,Fz,Fr,xb,ud,Bz,xk,E3,FU,Dr,Bs,FN,Ef,yN,rE,tK,DC,Cp,E8,FX,uH,Ch,qz,Cl,tD,Fq,Fx,GH,pi,tT,nV,GU,D1,FD,Hh,G7,EY,GQ,sM,BP,Fb,G_,GY,C8,uC,FY,B8,BG,C6,FZ,Fu,Fo,yX,Cm,rP,yW,L2.start,KC,List.map_nil,Ki,List.length_nil,List.replicate,List.cons_append,KW,Nat.reduceAdd,Nat.reduceSub,List.getElem?_cons_zero,KB,List.set_cons_zero,List.set_cons_succ,gy,Cx.blk,uI,Eg,B4,CO,Cx.wish,Cx.nox,GI,ld";let d<-f (c++",JY,IF,Js,JG,IK,J1,HW,JB,DJ,Fk,CL,BD");let e<-f (c++",KH,Option.some.injEq,V.int.injEq,V.str.injEq,V.ref.injEq,V.bl.injEq,List.cons.injEq,and_true,true_and,exists_and_left,exists_eq_left',exists_eq_left,decide_eq_true_eq,Bool.not_eq_true',decide_eq_false_iff_not,Ei,Option.join_some,Nat.succ_eq_add_one,Nat.zero_add,exists_const,and_assoc,exists_eq,exists_eq',Int.reducePow,Int.reduceNeg,Int.reduceLT,or_true,true_or,reduceCtorEq,Int.zero_add,Bool.false_eq_true,Bool.not_true,Bool.not_false,Cn,EJ,yo,yV,Ba,Cy,AK,AI,rI");let h<-g "reduceIte,Ha,G3,G',Hf,G4,G8,G1,GX";let e:=e++h
 `(tactic|((try dsimp only[$d,*]);(try simp only[$e,*])))
set_option hygiene false in
local macro_rules|`(tactic|walk_at "nc")=>`(tactic|(clear h1;refine am λN1 h1=>?_;walk_at "wp"))
set_option hygiene false in
local macro_rules|`(tactic|walk_at "n")=>`(tactic|(refine am λN1 h1=>?_;walk_at "wp"))
set_option hygiene false in
local macro_rules|`(tactic|walk_at "o")=>`(tactic|(refine am λN2 h2=>?_;walk_at "wp"))
set_option hygiene false in
local macro_rules|`(tactic|walk_at "f")=>`(tactic|refine F.ok sc (λvs H Q E h=>?_) (λcdv A outer s H vs Q E hr h=>?_))
set_option hygiene false in
local macro_rules|`(tactic|walk_at "x")=>`(tactic|refine F.okX sc (λvs H Q E h=>?_) (λcdv A outer s H vs Q E hr h=>?_))
set_option hygiene false in
local macro_rules|`(tactic|walk_at "c")=>`(tactic|exact⟨rfl,rfl,rfl,by decide +kernel,rfl,by decide +kernel,by decide +kernel⟩)
noncomputable def iZ(i:Nat):Stmt:=PySem.Challenge.pw_quiltlaw_k36_rows_one_by_one.main.body.getD i (.Pass ⟨0,0,0,0⟩)
noncomputable def Ee:Stmt->List Stmt
 | .ClassDef (body:=b) ..=>b
 |_=>[]
noncomputable def eQ(i j:Nat):Stmt:=(Ee (iZ i)).getD j (.Pass ⟨0,0,0,0⟩)
section
variable {P:Ld}{w:Lg}{K:W.Frag}{mg:Lb}{base:Heap}
noncomputable abbrev Gj(z:Str)(c:Nat):Bool:=!(Builtin.Str.occurrences z ⟨#[c]⟩ 0 z.length 1).isEmpty
noncomputable abbrev nF:Stmt:=iZ 25
noncomputable def il(r:K7)(z:Str):Bool:=r.all (Gj z)
inductive iV(vs:List V)(H:Hp)(Q:VK)(_E:XK):Prop
 |mk (r:K7) (z:Str) (_:vs=[.str (tx r),.str z]) (_:r.length<=100000) (_:∀H',az H H'->Q (.bl (il r z)) H')
theorem xU:av ["text","letters"] ["text","letters"] (ai nF):=by walk_at "c"
theorem Jz{r:K7}{i c:Nat}(h:(tx r).cps[i]?=some c):r[i]?=some c:=by
 rw[<- h];show r[i]?=r.toArray[i]?;simp
theorem Hc(r:K7):(tx r).cps.size=r.length:=by show r.toArray.size=_;simp
theorem xQ{f:Addr}{fd:Lc}(F:cy K "only_of" "only_of" nF f fd)(nb:NB mg):aQ P w K mg base bG 1 f fd ["text","letters"] iV:=by
 have sc:=xU;walk_at "f"
 ·obtain⟨r,z,rfl,_⟩:=h;rfl
 ·obtain⟨r,z,rfl,hr',q⟩:=h
  refine⟨_,(ah (aE (aA (BH rfl) rfl nb.all E_ (aa (cH ["sign"] [1] rfl (bB.of (by kernel_rfl)) (by kernel_rfl) (EW (ak 0))
    (λ_ _ _ _=>(ay (i:=0) (by show(["sign","letters"]:List Str).Nodup;decide +kernel) rfl (Or.inl rfl))) (λ_ _ _ _=>bU) (λ_ _ _ _=>(oW zH (ak 0) (ak 1) (by with_unfolding_all rfl)))) ad)))),?_⟩
  walk_at "wp";refine DD (x:=tx r) (λi acc σ H'=>H'=H/\acc=((r.take i).map (Gj z)).map V.bl/\i<=r.length/\∃x,σ=[x,some (.str z)]) ⟨rfl,rfl,Kw _,_,rfl⟩ ?_ ?_ ?_ ?_
  ·rintro i acc σ H' ⟨_,rfl,hi,_⟩
   rw[J_,J_,KM];exact bf ⋯
  ·rintro i acc σ H' ⟨_,_,h,_⟩
   rw[Hc];exact h
  ·rintro i c acc σ H' hc ⟨rfl,rfl,hi,y,rfl⟩
   have hc':=Jz hc;have hi':=(J8.mp hc').1;walk_at "wp";refine⟨?_,hi'⟩;rw[List.take_add_one,hc'];simp
  ·rintro acc σ H' ⟨rfl,rfl,_⟩ l hl
   refine⟨_,aS.of ac,?_⟩;rw[Hc,KL];have e:(r.map (Gj z)).all id=il r z:=by unfold il;rw[List.all_map];rfl
   rw[e];exact q _ (ae hl)
noncomputable abbrev nB:Stmt:=iZ 26
noncomputable abbrev FT:Str:="ABCDEFGHIJKLMNOPQRSTUVWXYZ"
noncomputable def dz(r:K7):Bool:=decide (1<=r.length)&&decide (r.length<=4)&&il r FT
inductive lR(vs:List V)(H:Hp)(Q:VK)(_E:XK):Prop
 |mk (r:K7) (_:vs=[.str (tx r)]) (_:r.length<=100000) (_:∀H',az H H'->Q (.bl (dz r)) H')
theorem w9:av ["text"] ["text"] (ai nB):=by walk_at "c"
theorem wz{f:Addr}{fd:Lc}{t1 t2:Tok}(F:cy K "is_name" "is_name" nB f fd)(nb:NB mg)(ya4:mg "LONGEST_NAME"=some (.int 4 t1))(ybo:mg "CAPITALS"=some (.str "ABCDEFGHIJKLMNOPQRSTUVWXYZ" t2))(yas:eR P w K mg base bG 1 "only_of" ["text","letters"] iV):aQ P w K mg base bG 2 f fd ["text"] lR:=by
 have sc:=w9;walk_at "f"
 ·obtain⟨r,rfl,_⟩:=h;rfl
 ·obtain⟨r,rfl,hr',q⟩:=h
  refine⟨_,(ah (aE (uc (vf (bd.m0 l6) (bd.m0 l6) aj (aA aU rfl nb.len aW (aa (ak 0) ad)) (dG (v:=.int 4) rfl ya4 ⟨_,rfl⟩)) (xH (aI yas (hr.mono nofun) rfl ba (aa (ak 0) (aa (dG (v:=.str "ABCDEFGHIJKLMNOPQRSTUVWXYZ") rfl ybo ⟨_,rfl⟩) ad))))))),?_⟩;walk_at "wp";refine⟨by rw[au];exact al ⋯,?_⟩;rw[au];unfold dz at q
  by_cases h1:1<=r.length
  ·rw[if_pos ⋯]
   by_cases h2:r.length<=4
   ·rw[if_pos ⋯]
    refine⟨r,_,rfl,hr',λH' sm=>?_⟩;have z:=q H' sm;rw[decide_eq_true h1,decide_eq_true h2]at z;exact z
   ·rw[if_neg ⋯]
    have z:=q H (λ_ _ e=>e);rw[decide_eq_true h1,decide_eq_false h2]at z;exact z
  ·rw[if_neg ⋯]
   have z:=q H (λ_ _ e=>e);rw[decide_eq_false h1]at z;exact z
noncomputable abbrev dP:Stmt:=eQ 27 0
inductive dl(K:W.Frag)(CF:Addr)(vs:List V)(H:Hp)(Q:VK)(E:XK):Prop
 |mk (a C dx l:Addr) (n:K7) (c:Int) (ps:bF) (_:vs=[.ref a,.str (tx n),.int c,.ref l]) (_:H a=some (.ins C dx [])) (_:lW K C) (_:aq K C "name") (_:aq K C "cost") (_:aq K C "part_names") (_:H l=some (.lst (aD ps))) (_:ps.length<=1000) (_:(∀r∈n::ps,r.length<=100000)) (_:((∀r∈n::ps,dz r=true)/\1<=c/\c<=9->∀H',az H H'->Q .non (ax H' a (.ins C dx [("name",.str (tx n)),("cost",.int c),("part_names",.ref l)])))) (_:(¬ ((∀r∈n::ps,dz r=true)/\1<=c/\c<=9)->∀H',az H H'->E (.ref CF) none H'))
theorem uP:av ["self","name","cost","part_names","text"] ["self","name","cost","part_names"] (ai dP):=by walk_at "c"
theorem u3{f zfa:Addr}{fd:Lc}(F:cy K "__init__" "Rule.__init__" dP f fd)(nb:NB mg)(zCa:mg "NoRule"=some (.ref zfa))(zxa:XR K zfa)(yaB:eR P w K mg base bG 2 "is_name" ["text"] lR):aQ P w K mg base (bz P w) 3 f fd ["self","name","cost","part_names"] (dl K zfa):=by
 have sc:=uP;walk_at "x"
 ·obtain⟨a,C,dx,l,n,c,ps,rfl,_⟩:=h;rfl
 ·obtain⟨a,C,dx,l,n,c,ps,rfl,ha,cl,n1,n2,n3,hl,hpl,hrl,good,bad⟩:=h
  refine⟨_,(af (bw PassesOwn.leaving rfl (cE (aw yl (bH (aa (ak 1) ad)) (ak 3))) (ay (i:=4) sc.nd rfl (Or.inl rfl))
   (ah (bE (ly (lj (aI (CX:=bz P w) yaB.lift (hr.mono nofun) rfl bc (aa (ak 4) ad)) λ_=>rfl))
   (ah (dq zxa rfl rfl zCa (eD λ_ _ _ h=>h) (bL ad)))
   aM)))
   (af (bE (PW.pt (lm (aH (bd.m0 pw) (ak 2) aj (aO _)) (gO (aH (bd.m0 jo) (ak 2) aj (aO _)))))
   (ah (dq zxa rfl rfl zCa (eD λ_ _ _ h=>h) (bL ad)))
   aM)
   (af (c8 (ak 0) (ak 1) rfl)
   (af (c8 (ak 0) (ak 2) rfl)
   (ah (c8 (ak 0) (ak 3) rfl)))))),?_⟩
  walk_at "wp";refine⟨al ⋯,λp hp=>?_⟩;have m1:az H (ax H p (.lst [V.str (tx n)])):=ae hp;have e1:ax H p (.lst [V.str (tx n)]) p=some (.lst [V.str (tx n)]):=ac;generalize ax H p (.lst [V.str (tx n)])=H1 at m1 e1 ⊢;refine⟨_,e1,_,m1 _ _ hl,by rw[ar];exact al (by simp;omega),λp2 hp2=>?_⟩;have e12:[V.str (tx n)]++aD ps=aD (n::ps):=rfl;rw[e12];have m2:az H1 (ax H1 p2 (.lst (aD (n::ps)))):=ae hp2;have e2:ax H1 p2 (.lst (aD (n::ps))) p2=some (.lst (aD (n::ps))):=ac;generalize ax H1 p2 (.lst (aD (n::ps)))=H2 at m2 e2 ⊢;generalize hqs:n::ps=qs at hrl good bad e2 ⊢;have m02:=m1.trans m2;refine⟨⟨_,aS.of e2⟩,dn (xs:=aD qs) (λi σ H'=>az H2 H'/\(∀r∈qs.take i,dz r=true)/\∃x,σ=[some (.ref a),some (.str (tx n)),some (.int c),some (.ref l),x]) ⟨λ_ _ e=>e,by simp,_,rfl⟩ (λi σ H' _ h=>aS.of (h.1 _ _ e2)) ?_ ?_⟩
  ·rintro i v σ H' hv ⟨sm,hok,x,rfl⟩
   have hi:i<qs.length:=by have:=(J8.mp hv).1;rwa [ar]at this
   rw[bb hi]at hv;cases hv;walk_at "wp";refine⟨_,rfl,hrl _ (Kf hi),λH3 sm3=>⟨_,rfl,?_⟩⟩
   by_cases hb:dz qs[i]=true
   ·rw[if_neg (by rw[hb];decide)]
    refine⟨sm.trans sm3,λr hr=>?_⟩;rw[List.take_add_one,J7 hi]at hr;rcases Kk.mp hr with h | h
    ·exact hok r h
    ·rw[show r=qs[i] by simpa using h];exact hb
   ·rw[if_pos (by simpa using hb)]
    exact⟨al ⋯,bad (λh=>hb (h.1 _ (Kf hi))) _ ((m02.trans sm).trans sm3)⟩
  ·rintro σ H' ⟨sm,hok,x,rfl⟩
   rw[ar,KL]at hok;have smH:=m02.trans sm;walk_at "wp"
   by_cases c1:c<1
   ·rw[if_pos c1]
    exact⟨al ⋯,bad (λh=>by omega) _ smH⟩
   ·rw[if_neg c1]
    by_cases c9:9<c
    ·rw[if_pos c9]
     exact⟨al ⋯,bad (λh=>by omega) _ smH⟩
    ·rw[if_neg c9]
     have g:=good ⟨hok,⋯,⋯⟩ H' smH;have l1:(cI "name" (V.str (tx n)) []).length<=1:=c7 _ _ _;have l2:(cI "cost" (V.int c) (cI "name" (V.str (tx n)) [])).length<=2:=KD (c7 _ _ _) ⋯;have d1:¬ (("name":Str)="cost"):=by decide +kernel
     have d2:¬ (("name":Str)="part_names"):=by decide +kernel
     have d3:¬ (("cost":Str)="part_names"):=by decide +kernel
     have e:cI "part_names" (V.ref l) (cI "cost" (V.int c) (cI "name" (V.str (tx n)) []))=[(("name":Str),V.str (tx n)),(("cost":Str),V.int c),(("part_names":Str),V.ref l)]:=by
      simp only[cI,if_neg d1,if_neg d2,if_neg d3]
     refine⟨C,dx,[],smH _ _ ha,cl,n1,by simp,C,dx,_,ac,cl,n2,⋯,C,dx,_,ac,cl,n3,⋯,?_⟩;rw[mL,mL,e];exact g
noncomputable def bQ(a:Addr)(H H':Hp):Prop:=∀b o,b≠a->H b=some o->H' b=some o
theorem bQ.of{a:Addr}{H H':Hp}(s:az H H'):bQ a H H':=λb o _ e=>s b o e
theorem bQ.put{a:Addr}{H H':Hp}{o:HO}(s:bQ a H H'):bQ a H (ax H' a o):=λb u hb e=>by rw[ao hb];exact s b u hb e
theorem bQ.then{a:Addr}{H H' H2:Hp}(s:bQ a H H')(t:az H' H2):bQ a H H2:=λb u hb e=>t b u (s b u hb e)
noncomputable abbrev FE:Str:="abcdefghijklmnopqrstuvwxyz"
noncomputable def jv(r:K7):Bool:=decide (r.length=1)&&il r FE
noncomputable def gQ(n:K7)(ps:bF)(c:Int):Prop:=(∀r∈n::ps,dz r=true)/\1<=c/\c<=9
noncomputable abbrev dO:Stmt:=eQ 28 0
inductive iJ(K:W.Frag)(CF:Addr)(vs:List V)(H:Hp)(Q:VK)(E:XK):Prop
 |mk (a C dx:Addr) (n sg:K7) (c:Int) (_:vs=[.ref a,.str (tx n),.int c,.str (tx sg)]) (_:H a=some (.ins C dx [])) (_:lW K C) (_:(aq K C "name"/\aq K C "cost"/\aq K C "part_names"/\aq K C "sign")) (_:n.length<=100000) (_:sg.length<=100000) (_:(gQ n [] c/\jv sg=true->∀(l:Addr) (H':Hp),bQ a H H'->H l=none->H' l=some (.lst [])->H' a=some (.ins C dx [("name",.str (tx n)),("cost",.int c),("part_names",.ref l),("sign",.str (tx sg))])->Q .non H')) (_:(¬ (gQ n [] c/\jv sg=true)->∀H',bQ a H H'->E (.ref CF) none H'))
theorem sP:av ["self","name","cost","sign"] ["self","name","cost","sign"] (ai dO):=by walk_at "c"
theorem uY{f zfa:Addr}{fd:Lc}{t3:Tok}(F:cy K "__init__" "CellRule.__init__" dO f fd)(nb:NB mg)(yaz:mg "SMALLS"=some (.str "abcdefghijklmnopqrstuvwxyz" t3))(zCa:mg "NoRule"=some (.ref zfa))(zxa:XR K zfa)
  (yas:eR P w K mg base bG 1 "only_of" ["text","letters"] iV) (zha:A' P w K mg base (bz P w) 3 "Rule" "__init__" ["self","name","cost","part_names"] (dl K zfa)):aQ P w K mg base (bz P w) 4 f fd ["self","name","cost","sign"] (iJ K zfa):=by
 have sc:=sP;walk_at "x"
 ·obtain⟨a,C,dx,n,sg,c,rfl,_⟩:=h;rfl
 ·obtain⟨a,C,dx,n,sg,c,rfl,ha,cl,⟨n1,n2,n3,n4⟩,hn,hsg,good,bad⟩:=h
  refine⟨_,(af (bv (oV (E:=E) zha (hr.mono nofun) rfl (aV λ_ _ _ h=>h) (aa (ak 0) (aa (ak 1) (aa (ak 2) (aa (bH ad) ad))))))
   (af (bE (PW.pt (lm (aH rG (aA aU rfl nb.len aW (aa (ak 3) ad)) aj (aO _)) (gO (ly (lj (aI (CX:=bz P w) yas.lift (hr.mono nofun) rfl bc (aa (ak 3) (aa (dG (v:=.str "abcdefghijklmnopqrstuvwxyz") rfl yaz ⟨_,rfl⟩) ad))) λ_=>rfl)))))
   (ah (dq zxa rfl rfl zCa (eD λ_ _ _ h=>h) (bL ad)))
   aM)
   (ah (c8 (ak 0) (ak 3) rfl)))),?_⟩
  walk_at "wp";refine⟨Kw _,λl hl=>?_⟩;have m1:az H (ax H l (.lst [])):=ae hl;have e1:ax H l (.lst []) l=some (.lst []):=ac;generalize ax H l (.lst [])=H1 at m1 e1 ⊢;have hla:l≠a:=λe=>by rw[e,ha]at hl;cases hl
  refine⟨a,C,dx,l,n,c,[],rfl,m1 _ _ ha,cl,n1,n2,n3,e1,by simp,λr hr=>by rw[show r=n by simpa using hr];exact hn,λok H2 sm2=>?_,λnok H2 sm2=>bad (λh=>nok h.1) _ (.of (m1.trans sm2))⟩;have sx:bQ a H (ax H2 a (.ins C dx [("name",.str (tx n)),("cost",.int c),("part_names",.ref l)])):=(bQ.of (m1.trans sm2)).put;have ea:ax H2 a (.ins C dx [("name",.str (tx n)),("cost",.int c),("part_names",.ref l)]) a=some (.ins C dx [("name",.str (tx n)),("cost",.int c),("part_names",.ref l)]):=ac;have el:ax H2 a (.ins C dx [("name",.str (tx n)),("cost",.int c),("part_names",.ref l)]) l=some (.lst []):=by rw[ao hla];exact sm2 _ _ e1
  generalize ax H2 a (.ins C dx [("name",.str (tx n)),("cost",.int c),("part_names",.ref l)])=H3 at sx ea el ⊢
  try dsimp only
  have sgl:jv sg=true->sg.length=1/\il sg FE=true:=λh=>by
   unfold jv at h;rw[Bool.and_eq_true,decide_eq_true_eq]at h;exact h
  refine⟨by rw[au];exact al ⋯,?_⟩;rw[au]
  by_cases h1:(sg.length:Int)=1
  ·rw[if_neg (λh=>h h1)]
   refine⟨sg,_,rfl,hsg,λH4 sm4=>⟨_,rfl,?_⟩⟩
   by_cases hb:il sg FE=true
   ·rw[if_neg (by rw[hb];decide)]
    have d1:¬ (("name":Str)="sign"):=by decide +kernel
    have d2:¬ (("cost":Str)="sign"):=by decide +kernel
    have d3:¬ (("part_names":Str)="sign"):=by decide +kernel
    have e:cI "sign" (V.str (tx sg)) [(("name":Str),V.str (tx n)),(("cost":Str),V.int c),(("part_names":Str),V.ref l)]=[(("name":Str),V.str (tx n)),(("cost":Str),V.int c),(("part_names":Str),V.ref l),(("sign":Str),V.str (tx sg))]:=by
     simp only[cI,if_neg d1,if_neg d2,if_neg d3]
    refine⟨C,dx,_,sm4 _ _ ea,cl,n4,by simp,?_⟩;rw[e];exact good ⟨ok,by unfold jv;rw[decide_eq_true ⋯,hb];rfl⟩ l _ (sx.then sm4).put hl (by rw[ao hla];exact sm4 _ _ el) ac
   ·rw[if_pos (by simpa using hb)]
    exact⟨al ⋯,bad (λh=>hb (sgl h.2).2) _ (sx.then sm4)⟩
  ·rw[if_pos h1]
   exact⟨al ⋯,bad (λh=>h1 (by have:=(sgl h.2).1;omega)) _ sx⟩
inductive dv(K:W.Frag)(CF:Addr)(vs:List V)(H:Hp)(Q:VK)(E:XK):Prop
 |mk (a C dx:Addr) (n o1 o2:K7) (c:Int) (_:vs=[.ref a,.str (tx n),.int c,.str (tx o1),.str (tx o2)]) (_:H a=some (.ins C dx [])) (_:lW K C) (_:(aq K C "name"/\aq K C "cost"/\aq K C "part_names"/\aq K C "one"/\aq K C "other")) (_:n.length<=100000) (_:o1.length<=100000) (_:o2.length<=100000) (_:(gQ n [o1,o2] c->∀(l:Addr) (H':Hp),bQ a H H'->H l=none->H' l=some (.lst (aD [o1,o2]))->H' a=some (.ins C dx [("name",.str (tx n)),("cost",.int c),("part_names",.ref l),("one",.str (tx o1)),("other",.str (tx o2))])->Q .non H')) (_:(¬ gQ n [o1,o2] c->∀H',bQ a H H'->E (.ref CF) none H'))
theorem vp{n o1 o2:K7}{c:Int}{l:Addr}:cI "other" (V.str (tx o2)) (cI "one" (V.str (tx o1)) [(("name":Str),V.str (tx n)),(("cost":Str),V.int c),(("part_names":Str),V.ref l)])=[(("name":Str),V.str (tx n)),(("cost":Str),V.int c),(("part_names":Str),V.ref l),(("one":Str),V.str (tx o1)),(("other":Str),V.str (tx o2))]:=by
 have d1:¬ (("name":Str)="one"):=by decide +kernel
 have d2:¬ (("cost":Str)="one"):=by decide +kernel
 have d3:¬ (("part_names":Str)="one"):=by decide +kernel
 have d4:¬ (("name":Str)="other"):=by decide +kernel
 have d5:¬ (("cost":Str)="other"):=by decide +kernel
 have d6:¬ (("part_names":Str)="other"):=by decide +kernel
 have d7:¬ (("one":Str)="other"):=by decide +kernel
 simp only[cI,if_neg d1,if_neg d2,if_neg d3,if_neg d4,if_neg d5,if_neg d6,if_neg d7]
noncomputable abbrev cT:Stmt:=eQ 29 0
theorem qB:av ["self","name","cost","one","other"] ["self","name","cost","one","other"] (ai cT):=by walk_at "c"
theorem qy{f zfa:Addr}{fd:Lc}(F:cy K "__init__" "BesideRule.__init__" cT f fd)(nb:NB mg)
  (zha:A' P w K mg base (bz P w) 3 "Rule" "__init__" ["self","name","cost","part_names"] (dl K zfa)):aQ P w K mg base (bz P w) 4 f fd ["self","name","cost","one","other"] (dv K zfa):=by
 have sc:=qB;walk_at "x"
 ·obtain⟨a,C,dx,n,o1,o2,c,rfl,_⟩:=h;rfl
 ·obtain⟨a,C,dx,n,o1,o2,c,rfl,ha,cl,⟨n1,n2,n3,n4,n5⟩,hn,ho1,ho2,good,bad⟩:=h
  refine⟨_,(af (bv (oV (E:=E) zha (hr.mono nofun) rfl (aV λ_ _ _ h=>h) (aa (ak 0) (aa (ak 1) (aa (ak 2) (aa (bH (aa (ak 3) (aa (ak 4) ad))) ad))))))
   (af (c8 (ak 0) (ak 3) rfl)
   (ah (c8 (ak 0) (ak 4) rfl)))),?_⟩
  walk_at "wp";refine⟨al ⋯,λl hl=>?_⟩;have m1:az H (ax H l (.lst [V.str (tx o1),V.str (tx o2)])):=ae hl;have e1:ax H l (.lst [V.str (tx o1),V.str (tx o2)]) l=some (.lst (aD [o1,o2])):=ac;generalize ax H l (.lst [V.str (tx o1),V.str (tx o2)])=H1 at m1 e1 ⊢;have hla:l≠a:=λe=>by rw[e,ha]at hl;cases hl
  refine⟨a,C,dx,l,n,c,[o1,o2],rfl,m1 _ _ ha,cl,n1,n2,n3,e1,by simp,λr hr=>?_,λok H2 sm2=>?_,λnok H2 sm2=>bad (λh=>nok h) _ (.of (m1.trans sm2))⟩
  ·have h3:r=n\/r=o1\/r=o2:=by simpa using hr
   rcases h3 with rfl | rfl | rfl
   ·exact hn
   ·exact ho1
   ·exact ho2
  ·have sx:bQ a H (ax H2 a (.ins C dx [("name",.str (tx n)),("cost",.int c),("part_names",.ref l)])):=(bQ.of (m1.trans sm2)).put
   have ea:ax H2 a (.ins C dx [("name",.str (tx n)),("cost",.int c),("part_names",.ref l)]) a=some (.ins C dx [("name",.str (tx n)),("cost",.int c),("part_names",.ref l)]):=ac;have el:ax H2 a (.ins C dx [("name",.str (tx n)),("cost",.int c),("part_names",.ref l)]) l=some (.lst (aD [o1,o2])):=by rw[ao hla];exact sm2 _ _ e1
   generalize ax H2 a (.ins C dx [("name",.str (tx n)),("cost",.int c),("part_names",.ref l)])=H3 at sx ea el ⊢
   try dsimp only
   refine⟨C,dx,_,ea,cl,n4,by simp,C,dx,_,ac,cl,n5,?_,?_⟩
   ·exact KO (c7 _ _ _) (by simp)
   ·rw[mL,vp]
    exact good ok l _ sx.put hl (by rw[ao hla];exact el) ac
noncomputable abbrev dy:Stmt:=eQ 30 0
theorem qT:av ["self","name","cost","one","other"] ["self","name","cost","one","other"] (ai dy):=by walk_at "c"
theorem rh{f zfa:Addr}{fd:Lc}(F:cy K "__init__" "AboveRule.__init__" dy f fd)(nb:NB mg)
  (zha:A' P w K mg base (bz P w) 3 "Rule" "__init__" ["self","name","cost","part_names"] (dl K zfa)):aQ P w K mg base (bz P w) 4 f fd ["self","name","cost","one","other"] (dv K zfa):=by
 have sc:=qT;walk_at "x"
 ·obtain⟨a,C,dx,n,o1,o2,c,rfl,_⟩:=h;rfl
 ·obtain⟨a,C,dx,n,o1,o2,c,rfl,ha,cl,⟨n1,n2,n3,n4,n5⟩,hn,ho1,ho2,good,bad⟩:=h
  refine⟨_,(af (bv (oV (E:=E) zha (hr.mono nofun) rfl (aV λ_ _ _ h=>h) (aa (ak 0) (aa (ak 1) (aa (ak 2) (aa (bH (aa (ak 3) (aa (ak 4) ad))) ad))))))
   (af (c8 (ak 0) (ak 3) rfl)
   (ah (c8 (ak 0) (ak 4) rfl)))),?_⟩
  walk_at "wp";refine⟨al ⋯,λl hl=>?_⟩;have m1:az H (ax H l (.lst [V.str (tx o1),V.str (tx o2)])):=ae hl;have e1:ax H l (.lst [V.str (tx o1),V.str (tx o2)]) l=some (.lst (aD [o1,o2])):=ac;generalize ax H l (.lst [V.str (tx o1),V.str (tx o2)])=H1 at m1 e1 ⊢;have hla:l≠a:=λe=>by rw[e,ha]at hl;cases hl
  refine⟨a,C,dx,l,n,c,[o1,o2],rfl,m1 _ _ ha,cl,n1,n2,n3,e1,by simp,λr hr=>?_,λok H2 sm2=>?_,λnok H2 sm2=>bad (λh=>nok h) _ (.of (m1.trans sm2))⟩
  ·have h3:r=n\/r=o1\/r=o2:=by simpa using hr
   rcases h3 with rfl | rfl | rfl
   ·exact hn
   ·exact ho1
   ·exact ho2
  ·have sx:bQ a H (ax H2 a (.ins C dx [("name",.str (tx n)),("cost",.int c),("part_names",.ref l)])):=(bQ.of (m1.trans sm2)).put
   have ea:ax H2 a (.ins C dx [("name",.str (tx n)),("cost",.int c),("part_names",.ref l)]) a=some (.ins C dx [("name",.str (tx n)),("cost",.int c),("part_names",.ref l)]):=ac;have el:ax H2 a (.ins C dx [("name",.str (tx n)),("cost",.int c),("part_names",.ref l)]) l=some (.lst (aD [o1,o2])):=by rw[ao hla];exact sm2 _ _ e1
   generalize ax H2 a (.ins C dx [("name",.str (tx n)),("cost",.int c),("part_names",.ref l)])=H3 at sx ea el ⊢
   try dsimp only
   refine⟨C,dx,_,ea,cl,n4,by simp,C,dx,_,ac,cl,n5,?_,?_⟩
   ·exact KO (c7 _ _ _) (by simp)
   ·rw[mL,vp]
    exact good ok l _ sx.put hl (by rw[ao hla];exact el) ac
inductive iB(K:W.Frag)(CF:Addr)(vs:List V)(H:Hp)(Q:VK)(E:XK):Prop
 |mk (a C dx:Addr) (n o1:K7) (c t:Int) (_:vs=[.ref a,.str (tx n),.int c,.str (tx o1),.int t]) (_:H a=some (.ins C dx [])) (_:lW K C) (_:(aq K C "name"/\aq K C "cost"/\aq K C "part_names"/\aq K C "part"/\aq K C "turning")) (_:n.length<=100000) (_:o1.length<=100000) (_:(gQ n [o1] c/\0<=t/\t<=7->∀(l:Addr) (H':Hp),bQ a H H'->H l=none->H' l=some (.lst (aD [o1]))->H' a=some (.ins C dx [("name",.str (tx n)),("cost",.int c),("part_names",.ref l),("part",.str (tx o1)),("turning",.int t)])->Q .non H')) (_:(¬ (gQ n [o1] c/\0<=t/\t<=7)->∀H',bQ a H H'->E (.ref CF) none H'))
theorem BO{n o1:K7}{c t:Int}{l:Addr}:cI "turning" (V.int t) (cI "part" (V.str (tx o1)) [(("name":Str),V.str (tx n)),(("cost":Str),V.int c),(("part_names":Str),V.ref l)])=[(("name":Str),V.str (tx n)),(("cost":Str),V.int c),(("part_names":Str),V.ref l),(("part":Str),V.str (tx o1)),(("turning":Str),V.int t)]:=by
 have d1:¬ (("name":Str)="part"):=by decide +kernel
 have d2:¬ (("cost":Str)="part"):=by decide +kernel
 have d3:¬ (("part_names":Str)="part"):=by decide +kernel
 have d4:¬ (("name":Str)="turning"):=by decide +kernel
 have d5:¬ (("cost":Str)="turning"):=by decide +kernel
 have d6:¬ (("part_names":Str)="turning"):=by decide +kernel
 have d7:¬ (("part":Str)="turning"):=by decide +kernel
 simp only[cI,if_neg d1,if_neg d2,if_neg d3,if_neg d4,if_neg d5,if_neg d6,if_neg d7]
noncomputable abbrev dJ:Stmt:=eQ 31 0
theorem sW:av ["self","name","cost","part","turning"] ["self","name","cost","part","turning"] (ai dJ):=by walk_at "c"
theorem tq{f zfa:Addr}{fd:Lc}(F:cy K "__init__" "TurnRule.__init__" dJ f fd)(nb:NB mg)(zCa:mg "NoRule"=some (.ref zfa))(zxa:XR K zfa)
  (zha:A' P w K mg base (bz P w) 3 "Rule" "__init__" ["self","name","cost","part_names"] (dl K zfa)):aQ P w K mg base (bz P w) 4 f fd ["self","name","cost","part","turning"] (iB K zfa):=by
 have sc:=sW;walk_at "x"
 ·obtain⟨a,C,dx,n,o1,c,t,rfl,_⟩:=h;rfl
 ·obtain⟨a,C,dx,n,o1,c,t,rfl,ha,cl,⟨n1,n2,n3,n4,n5⟩,hn,ho1,good,bad⟩:=h
  refine⟨_,(af (bv (oV (E:=E) zha (hr.mono nofun) rfl (aV λ_ _ _ h=>h) (aa (ak 0) (aa (ak 1) (aa (ak 2) (aa (bH (aa (ak 3) ad)) ad))))))
   (af (bE (PW.pt (lm (aH (bd.m0 pw) (ak 4) aj (aO _)) (gO (aH (bd.m0 jo) (ak 4) aj (aO _)))))
   (ah (dq zxa rfl rfl zCa (eD λ_ _ _ h=>h) (bL ad)))
   aM)
   (af (c8 (ak 0) (ak 3) rfl)
   (ah (c8 (ak 0) (ak 4) rfl))))),?_⟩
  walk_at "wp";refine⟨al ⋯,λl hl=>?_⟩;have m1:az H (ax H l (.lst [V.str (tx o1)])):=ae hl;have e1:ax H l (.lst [V.str (tx o1)]) l=some (.lst (aD [o1])):=ac;generalize ax H l (.lst [V.str (tx o1)])=H1 at m1 e1 ⊢;have hla:l≠a:=λe=>by rw[e,ha]at hl;cases hl
  refine⟨a,C,dx,l,n,c,[o1],rfl,m1 _ _ ha,cl,n1,n2,n3,e1,by simp,λr hr=>?_,λok H2 sm2=>?_,λnok H2 sm2=>bad (λh=>nok h.1) _ (.of (m1.trans sm2))⟩
  ·have h3:r=n\/r=o1:=by simpa using hr
   rcases h3 with rfl | rfl
   ·exact hn
   ·exact ho1
  ·have sx:bQ a H (ax H2 a (.ins C dx [("name",.str (tx n)),("cost",.int c),("part_names",.ref l)])):=(bQ.of (m1.trans sm2)).put
   have ea:ax H2 a (.ins C dx [("name",.str (tx n)),("cost",.int c),("part_names",.ref l)]) a=some (.ins C dx [("name",.str (tx n)),("cost",.int c),("part_names",.ref l)]):=ac;have el:ax H2 a (.ins C dx [("name",.str (tx n)),("cost",.int c),("part_names",.ref l)]) l=some (.lst (aD [o1])):=by rw[ao hla];exact sm2 _ _ e1
   generalize ax H2 a (.ins C dx [("name",.str (tx n)),("cost",.int c),("part_names",.ref l)])=H3 at sx ea el ⊢
   try dsimp only
   by_cases t0:t<0
   ·rw[if_pos t0]
    exact⟨al ⋯,bad (λh=>by omega) _ sx⟩
   ·rw[if_neg t0]
    by_cases t7:7<t
    ·rw[if_pos t7]
     exact⟨al ⋯,bad (λh=>by omega) _ sx⟩
    ·rw[if_neg t7]
     refine⟨C,dx,_,ea,cl,n4,by simp,C,dx,_,ac,cl,n5,?_,?_⟩
     ·exact KO (c7 _ _ _) (by simp)
     ·rw[mL,BO]
      exact good ⟨ok,⋯,⋯⟩ l _ sx.put hl (by rw[ao hla];exact el) ac
noncomputable abbrev dh:Stmt:=eQ 27 1
inductive cz(K:W.Frag)(vs:List V)(H:Hp)(Q:VK)(_E:XK):Prop
 |mk (a C dx l:Addr) (fs:List (Str×V)) (ps:bF) (_:vs=[.ref a]) (_:H a=some (.ins C dx fs)) (_:lW K C) (_:aq K C "part_names") (_:fs.lookup ("part_names":Str)=some (V.ref l)) (_:H l=some (.lst (aD ps))) (_:cQ H ps Q)
theorem ri:av ["self"] ["self"] (ai dh):=by walk_at "c"
theorem fm{f:Addr}{fd:Lc}(F:cy K "parts" "Rule.parts" dh f fd)(nb:NB mg):aQ P w K mg base bG 1 f fd ["self"] (cz K):=by
 have sc:=ri;walk_at "f"
 ·obtain⟨a,C,dx,l,fs,ps,rfl,_⟩:=h;rfl
 ·obtain⟨a,C,dx,l,fs,ps,rfl,ha,cl,n1,lk,hl,q⟩:=h
  refine⟨_,(ah (aE (d9 cK rfl nb.list iR (aa (bA (ak 0) rfl) ad)))),?_⟩;walk_at "wp";refine⟨C,dx,fs,ha,cl,n1,V.ref l,lk,l,rfl,_,.inl (aS.of hl),λl' hl'=>q l' _ hl' ac (ae hl')⟩
noncomputable abbrev EE(n:K7)(c:Int)(l:Addr)(sg:K7):List (Str×V):=[("name",.str (tx n)),("cost",.int c),("part_names",.ref l),("sign",.str (tx sg))]
noncomputable abbrev Dc(n:K7)(c:Int)(l:Addr)(o1 o2:K7):List (Str×V):=[("name",.str (tx n)),("cost",.int c),("part_names",.ref l),("one",.str (tx o1)),("other",.str (tx o2))]
noncomputable abbrev EM(n:K7)(c:Int)(l:Addr)(o1:K7)(t:Int):List (Str×V):=[("name",.str (tx n)),("cost",.int c),("part_names",.ref l),("part",.str (tx o1)),("turning",.int t)]
theorem j8{r:K7}(h:dz r=true):1<=r.length/\r.length<=4:=by
 unfold dz at h;rw[Bool.and_eq_true,Bool.and_eq_true,decide_eq_true_eq,decide_eq_true_eq]at h;exact h.1
theorem mZ{r:K7}(h:jv r=true):r.length=1:=by
 unfold jv at h;rw[Bool.and_eq_true,decide_eq_true_eq]at h;exact h.1
theorem am{a b:TS}{D:iK}{σ:St}{H:Hp}(h:∀N:St->Hp->Prop,(∀σ2 H2,b D σ2 H2->N σ2 H2)->a {D with nx:=N} σ H):Aa a b D σ H:=h (b D) λ_ _ z=>z
noncomputable abbrev m_:Stmt:=iZ 60
inductive pZ(vs:List V)(H:Hp)(Q:VK)(_E:XK):Prop
 |mk (i:Int) (_:vs=[.int i]) (_:Q (.bl true) H)
theorem x_:av ["_law_x"] ["_law_x"] (ai m_):=by walk_at "c"
theorem xi{f:Addr}{fd:Lc}(F:cy K "_law_whole" "_law_whole" m_ f fd)(nb:NB mg):aQ P w K mg base bG 1 f fd ["_law_x"] pZ:=by
 have sc:=x_;walk_at "f"
 ·obtain⟨i,rfl,_⟩:=h;rfl
 ·obtain⟨i,rfl,q⟩:=h
  refine⟨_,(ah (aE (uc (aA fJ rfl nb.isinstance hJ (aa (ak 0) (aa (yD (v:=.ty "int") rfl nb.int Fc rfl) ad))) (xH (E4 (aA fJ rfl nb.isinstance hJ (aa (ak 0) (aa (yD (v:=.ty "bool") rfl nb.bool D_ rfl) ad)))))))),?_⟩;walk_at "wp";refine⟨_,kr.int i,_,BU K _,?_⟩;walk_at "wp";refine⟨_,kr.int i,_,tZ K,?_⟩;exact q
structure RV where
 n:List Nat
 c:Int
 o1:List Nat
 o2:List Nat
 sg:List Nat
 t:Int
noncomputable abbrev Yaa:=List (Nat×RV)
structure RC where
 rr:Addr
 cc:Addr
 cb:Addr
 ca:Addr
 ct:Addr
noncomputable def RC.at(R:RC)(k:Nat):Addr:=match k with | 0=>R.cc | 1=>R.cb | 2=>R.ca | _=>R.ct
noncomputable def wb(k:Nat)(l:Addr)(v:RV):List (Str×V):=match k with | 0=>EE v.n v.c l v.sg | 1=>Dc v.n v.c l v.o1 v.o2 | 2=>Dc v.n v.c l v.o1 v.o2 | _=>EM v.n v.c l v.o1 v.t
noncomputable def bi(k:Nat)(v:RV):bF:=match k with | 0=>[] | 1=>[v.o1,v.o2] | 2=>[v.o1,v.o2] | _=>[v.o1]
noncomputable def Hx(k:Nat)(v:RV):Prop:=match k with | 0=>gQ v.n [] v.c/\jv v.sg=true | 1=>gQ v.n [v.o1,v.o2] v.c | 2=>gQ v.n [v.o1,v.o2] v.c | _=>gQ v.n [v.o1] v.c/\0<=v.t/\v.t<=7
structure RV.small(v:RV):Prop where
 n:v.n.length<=1000
 o1:v.o1.length<=1000
 o2:v.o2.length<=1000
 sg:v.sg.length<=1000
structure RV.good(v:RV):Prop where
 n:dz v.n=true
 c1:1<=v.c
 c9:v.c<=9
 o1:dz v.o1=true
 o2:dz v.o2=true
 sg:jv v.sg=true
 t0:0<=v.t
 t7:v.t<=7
theorem RV.good.small{v:RV}(g:v.good):v.small:=⟨by have:=j8 g.n;omega,by have:=j8 g.o1;omega,by have:=j8 g.o2;omega,by have:=mZ g.sg;omega⟩
theorem RV.good.ok{v:RV}(g:v.good):∀k,Hx k v
 |0=>⟨⟨λr hr=>by rw[show r=v.n by simpa using hr];exact g.n,g.c1,g.c9⟩,g.sg⟩
 |1=>⟨λr hr=>by rcases(show r=v.n\/r=v.o1\/r=v.o2 by simpa using hr) with rfl | rfl | rfl<;>first | exact g.n | exact g.o1 | exact g.o2,g.c1,g.c9⟩
 |2=>⟨λr hr=>by rcases(show r=v.n\/r=v.o1\/r=v.o2 by simpa using hr) with rfl | rfl | rfl<;>first | exact g.n | exact g.o1 | exact g.o2,g.c1,g.c9⟩
 |_+3=>⟨⟨λr hr=>by rcases(show r=v.n\/r=v.o1 by simpa using hr) with rfl | rfl<;>first | exact g.n | exact g.o1,g.c1,g.c9⟩,g.t0,g.t7⟩
noncomputable def iT(R:RC)(H:Hp)(k:Nat)(a:Addr)(v:RV):Prop:=∃dx l,H a=some (.ins (R.at k) dx (wb k l v))/\H l=some (.lst (aD (bi k v)))
theorem iT.up{R:RC}{H H':Hp}{k:Nat}{a:Addr}{v:RV}(r:iT R H k a v)(s:az H H'):iT R H' k a v:=by
 obtain⟨dx,l,h1,h2⟩:=r;exact⟨dx,l,s _ _ h1,s _ _ h2⟩
structure oI(K:W.Frag)(R:RC):Prop where
 i0:fD K R.cc
 i1:fD K R.cb
 i2:fD K R.ca
 i3:fD K R.ct
 a0:aq K R.cc "name"/\aq K R.cc "cost"/\aq K R.cc "part_names"/\aq K R.cc "sign"
 a1:aq K R.cb "name"/\aq K R.cb "cost"/\aq K R.cb "part_names"/\aq K R.cb "one"/\aq K R.cb "other"
 a2:aq K R.ca "name"/\aq K R.ca "cost"/\aq K R.ca "part_names"/\aq K R.ca "one"/\aq K R.ca "other"
 a3:aq K R.ct "name"/\aq K R.ct "cost"/\aq K R.ct "part_names"/\aq K R.ct "part"/\aq K R.ct "turning"
 r0:W.kitOne K (.ref R.cc) (.ref R.rr)=some true
 r1:W.kitOne K (.ref R.cb) (.ref R.rr)=some true
 r2:W.kitOne K (.ref R.ca) (.ref R.rr)=some true
 r3:W.kitOne K (.ref R.ct) (.ref R.rr)=some true
 s0:W.kitOne K (.ref R.cc) (.ref R.cc)=some true
 s1:W.kitOne K (.ref R.cb) (.ref R.cb)=some true
 s2:W.kitOne K (.ref R.ca) (.ref R.ca)=some true
 s3:W.kitOne K (.ref R.ct) (.ref R.ct)=some true
theorem oI.icls{R:RC}(rk:oI K R):∀k,fD K (R.at k)
 |0=>rk.i0
 |1=>rk.i1
 |2=>rk.i2
 |_+3=>rk.i3
theorem oI.name{R:RC}(rk:oI K R):∀k,aq K (R.at k) "name"/\aq K (R.at k) "cost"/\aq K (R.at k) "part_names"
 |0=>⟨rk.a0.1,rk.a0.2.1,rk.a0.2.2.1⟩
 |1=>⟨rk.a1.1,rk.a1.2.1,rk.a1.2.2.1⟩
 |2=>⟨rk.a2.1,rk.a2.2.1,rk.a2.2.2.1⟩
 |_+3=>⟨rk.a3.1,rk.a3.2.1,rk.a3.2.2.1⟩
theorem iN(l:Addr)(v:RV):∀k,(wb k l v).lookup ("name":Str)=some (V.str (tx v.n))/\(wb k l v).lookup ("cost":Str)=some (V.int v.c)/\(wb k l v).lookup ("part_names":Str)=some (V.ref l)/\(wb k l v).lookup ("parts":Str)=none/\(wb k l v).lookup ("told":Str)=none
 |0=>⟨rfl,rfl,rfl,rfl,rfl⟩
 |1=>⟨rfl,rfl,rfl,rfl,rfl⟩
 |2=>⟨rfl,rfl,rfl,rfl,rfl⟩
 |_+3=>⟨rfl,rfl,rfl,rfl,rfl⟩
theorem j7{H1 H2:Hp}{x dx:Addr}{o o':HO}(hx:H1 x=none)(hd:H1 dx=none)(s:bQ x (ax (ax H1 dx o) x o') H2):az H1 H2:=
 λb u e=>s b u (aC e hx) (by rw[ao (aC e hx),ao (aC e hd)];exact e)
theorem Bw{CX:k8}{k:Nat}{m:Str}{C0 C1 C2 C3:Addr}{s0 s1 s2 s3:Sp}(h0:∃ps,bX P w K mg base CX k C0 m ps s0)(h1:∃ps,bX P w K mg base CX k C1 m ps s1)(h2:∃ps,bX P w K mg base CX k C2 m ps s2)(h3:∃ps,bX P w K mg base CX k C3 m ps s3) :
  oG P w K mg base CX k m [(C0,s0),(C1,s1),(C2,s2),(C3,s3)]:=⟨λo ho=>by
 simp only[Km,List.not_mem_nil,or_false]at ho;rcases ho with rfl | rfl | rfl | rfl
 ·exact h0
 ·exact h1
 ·exact h2
 ·exact h3⟩
noncomputable def mU(K:W.Frag)(R:RC):List (Addr×Sp):=[(R.cc,cz K),(R.cb,cz K),(R.ca,cz K),(R.ct,cz K)]
theorem rN{R:RC}{H:Hp}{k a}{v:RV}{Q:VK}{E:XK}(rk:oI K R)(r:iT R H k a v)(q:cQ H (bi k v) Q) :
  ∃o∈mU K R,∃dx fs,H a=some (.ins o.1 dx fs)/\fs.lookup ("parts":Str)=none/\o.2 [.ref a] H Q E:=by
 obtain⟨dx,l,h1,h2⟩:=r;have key:cz K [.ref a] H Q E:=⟨a,R.at k,dx,l,_,_,rfl,h1,(rk.icls k).cl,(rk.name k).2.2,(iN l v k).2.2.1,h2,q⟩;have mem:(R.at k,cz K)∈mU K R:=by
  unfold mU
  match k with
  |0=>simp[RC.at]
  |1=>simp[RC.at]
  |2=>simp[RC.at]
  |_+3=>simp[RC.at]
 exact⟨_,mem,dx,_,h1,(iN l v k).2.2.2.1,key⟩
noncomputable abbrev ju:Stmt:=iZ 55
noncomputable abbrev pX:Str:="abcdefghijklmnopqrstuvwxyz"
noncomputable def eJ(r:K7):Bool:=decide (1<=r.length)&&decide (r.length<=4)&&il r pX&&decide ((met (du (tx r))).length=r.length)
inductive mr(vs:List V)(H:Hp)(Q:VK)(_E:XK):Prop
 |mk (r:K7) (_:vs=[.str (tx r)]) (_:r.length<=1000) (_:∀H',az H H'->Q (.bl (eJ r)) H')
theorem tG:av ["text"] ["text"] (ai ju):=by walk_at "c"
theorem uB{f:Addr}{fd:Lc}{t1 t2:Tok}(F:cy K "are_signs" "are_signs" ju f fd)(nb:NB mg)(ybe:mg "MOST_SIGNS"=some (.int 4 t1))(yaz:mg "SMALLS"=some (.str "abcdefghijklmnopqrstuvwxyz" t2))(yas:eR P w K mg base bG 1 "only_of" ["text","letters"] iV):aQ P w K mg base bG 2 f fd ["text"] mr:=by
 have sc:=tG;walk_at "f"
 ·obtain⟨r,rfl,_⟩:=h;rfl
 ·obtain⟨r,rfl,hr',q⟩:=h
  refine⟨_,(ah (aE (uc (vf (bd.m0 l6) (bd.m0 l6) aj (aA aU rfl nb.len aW (aa (ak 0) ad)) (dG (v:=.int 4) rfl ybe ⟨_,rfl⟩)) (uc (aI yas (hr.mono nofun) rfl ba (aa (ak 0) (aa (dG (v:=.str "abcdefghijklmnopqrstuvwxyz") rfl yaz ⟨_,rfl⟩) ad))) (xH (oW i' (Ab rfl (ak 0) rfl nb.len rfl nb.set) (aA aU rfl nb.len aW (aa (ak 0) ad)) (aO _))))))),?_⟩;walk_at "wp";refine⟨by rw[au];exact al ⋯,?_⟩;rw[au];unfold eJ at q
  by_cases h1:1<=r.length
  ·rw[if_pos ⋯]
   by_cases h2:r.length<=4
   ·rw[if_pos ⋯]
    refine⟨r,_,rfl,⋯,λH' sm=>⟨_,rfl,?_⟩⟩;have z:=q H' sm;rw[decide_eq_true h1,decide_eq_true h2]at z;cases ho:il r pX with
    |false=>
     rw[ho]at z;rw[if_neg (by simp)];exact z
    |true=>
     rw[ho]at z;rw[if_pos rfl];refine⟨by rw[Hc];unfold scanBound;omega,by exact al ⋯,?_⟩;have e:decide (((met (du (tx r))).length:Int)=(r.length:Int))=decide ((met (du (tx r))).length=r.length):=by
      apply decide_eq_decide.mpr
      constructor<;>intro h<;>omega
     rw[e];exact z
   ·rw[if_neg ⋯]
    have z:=q H (λ_ _ e=>e);rw[decide_eq_true h1,decide_eq_false h2]at z;exact z
  ·rw[if_neg ⋯]
   have z:=q H (λ_ _ e=>e);rw[decide_eq_false h1]at z;exact z
noncomputable def F7(y:Str×List Int):List V:=.str y.1::y.2.map V.int
theorem Cq{α:Type}{l:List α}{i:Nat}{x:α}(h:l[i]?=some x):l.drop i=x::l.drop (i+1):=by
 obtain⟨hi,e⟩:=J8.mp h;rw[List.drop_eq_getElem_cons hi,e]
noncomputable def wG(C:Addr)(H:Hp)(y:Str×List Int)(E:XK):Prop:=∀(t d:Addr) (H':Hp),az H H'->H' t=some (.tup (F7 y))->H' d=some (.xd [("why",.ref t)])->E (.ref C) (some d) H'
theorem wG.made{C:Addr}{H H':Hp}{y:Str×List Int}{E:XK}(b:wG C H y E)(sm:az H H'){p d:Addr}(hp:H' p=none)(hd:ax H' p (.tup (F7 y)) d=none):E (.ref C) (some d) (ax (ax H' p (.tup (F7 y))) d (.xd [("why",.ref p)])):=by
 have hdp:p≠d:=λx=>by rw[<- x,ac]at hd;cases hd
 exact b p d _ ((sm.trans (ae hp)).trans (ae hd)) (by rw[ao hdp,ac]) ac
structure EF(K:W.Frag)(R:RC):Prop where
 kit:∀i j,i<4->j<4->W.kitOne K (.ref (R.at i)) (.ref (R.at j))=some (decide (i=j))
noncomputable abbrev ka:Stmt:=eQ 5 0
theorem Bo:av ["self","why"] ["self","why"] (ai ka):=by walk_at "c"
theorem Di{f C:Addr}{fd:Lc}(F:cy K "__init__" "NoGrammar.__init__" ka f fd)(xs:W.XSt K C "why"):aQ P w K mg base bG 1 f fd ["self","why"] (mv C "why"):=by
 have sc:=Bo;walk_at "f"
 ·obtain⟨a,v,rfl,_⟩:=h;rfl
 ·obtain⟨a,v,rfl,ha,q⟩:=h
  refine⟨_,(ah (yY (pv 0) (pv 1) rfl)),?_⟩;walk_at "wp";exact⟨C,ha,xs,λd hd=>q d hd⟩
noncomputable abbrev GL(z x:Str):Bool:=!(Builtin.Str.occurrences z x 0 z.length 1).isEmpty
noncomputable def gM(sg:Str):Yaa->Nat->Option Nat
 | [],_=>none
 |r::rs,j=>if r.1=0/\GL sg (tx r.2.sg)=false then some j else gM sg rs (j+1)
noncomputable def iE(sg st:K7)(rs:Yaa):Option (Str×List Int):=
 if eJ sg=false then some ("signs",[]) else if dz st=false then some ("start",[]) else if 24<rs.length then some ("rules",[(rs.length:Int)]) else
  match gM (tx sg) rs 0 with
  |some k=>some ("sign",[(k:Int)])
  |none=>none
noncomputable abbrev fK:Stmt:=iZ 54
noncomputable def cF(R:RC)(H:Hp)(as:La)(rs:Yaa):Prop:=as.length=rs.length/\∀(i:Nat) a r,as[i]?=some a->rs[i]?=some r->iT R H r.1 a r.2
theorem cF.up{R:RC}{H H':Hp}{as:La}{rs:Yaa}(h:cF R H as rs)(s:az H H'):cF R H' as rs:=⟨h.1,λi a r e1 e2=>(h.2 i a r e1 e2).up s⟩
inductive im(R:RC)(C:Addr)(vs:List V)(H:Hp)(Q:VK)(E:XK):Prop
 |mk (sg st:K7) (a:Addr) (as:La) (rs:Yaa) (_:vs=[.str (tx sg),.str (tx st),.ref a]) (_:sg.length<=1000) (_:st.length<=1000) (_:H a=some (.lst (as.map V.ref))) (_:cF R H as rs) (_:(∀r∈rs,r.1<4)) (_:rs.length<=100) (_:(iE sg st rs=none->∀H',az H H'->Q .non H')) (_:∀y,iE sg st rs=some y->wG C H y E)
theorem m7:av ["signs","start","rules","k","rule"] ["signs","start","rules"] (ai fK):=by walk_at "c"
theorem nK{R:RC}{f zda:Addr}{fd:Lc}{t1:Tok}(F:cy K "check_made_of" "check_made_of" fK f fd)(nb:NB mg)(rk:oI K R)(rk4:EF K R)(ya6:mg "MOST_RULES"=some (.int 24 t1))(zub:mg "CellRule"=some (.ref R.cc))
  (zua:mg "NoGrammar"=some (.ref zda)) (zna:XI P w K mg base 1 zda "why") (yaX:eR P w K mg base bG 2 "are_signs" ["text"] mr) (yaB:eR P w K mg base bG 2 "is_name" ["text"] lR):aQ P w K mg base (bz P w) 3 f fd ["signs","start","rules"] (im R zda):=by
 have sc:=m7;walk_at "x"
 ·obtain⟨sg,st,a,as,rs,rfl,_⟩:=h;rfl
 ·obtain⟨sg,st,a,as,rs,rfl,hsg,hst,ha,hrs,hk4,hn,good,bad⟩:=h
  refine⟨_,(af (bE (ly (lj (aI (CX:=bz P w) yaX.lift (hr.mono nofun) rfl bc (aa (ak 0) ad)) λ_=>rfl))
   (ah (d_ zna (hr.mono nofun) rfl rfl zua (d8 λ_ _ _ h=>h) (aa (aL (bL ad)) ad)))
   aM)
   (af (bE (ly (lj (aI (CX:=bz P w) yaB.lift (hr.mono nofun) rfl bc (aa (ak 1) ad)) λ_=>rfl))
   (ah (d_ zna (hr.mono nofun) rfl rfl zua (d8 λ_ _ _ h=>h) (aa (aL (bL ad)) ad)))
   aM)
   (af (bE (aH (bd.m0 jo) (aA a_ rfl nb.len aW (aa (ak 2) ad)) (dG (v:=.int 24) rfl ya6 ⟨_,rfl⟩) (aO _))
   (ah (d_ zna (hr.mono nofun) rfl rfl zua (d8 λ_ _ _ h=>h) (aa (aL (bL (aa (aA a_ rfl nb.len aW (aa (ak 2) ad)) ad))) ad)))
   aM)
   (ah (bw PassesOwn.leaving rfl (oR rfl nb.enumerate (aa (ak 2) ad)) (fG (n:=2) rfl (aK (ay (i:=3) sc.nd rfl (Or.inl rfl)) (aK (ay (i:=4) sc.nd rfl (Or.inl rfl)) cW)))
   (ah (bE (PW.pt (lP (lj (aA fJ rfl nb.isinstance hJ (aa (ak 4) (aa (dG (v:=.ref _) rfl zub rfl) ad))) λ_=>rfl) (l8 (aH sS (bA (ak 4) rfl) (ak 0) (by with_unfolding_all rfl)))))
   (ah (d_ zna (hr.mono nofun) rfl rfl zua (d8 λ_ _ _ h=>h) (aa (aL (bL (aa (ak 3) ad))) ad)))
   aM))))))),?_⟩
  have tupw:∀(H':Hp) (y:Str×List Int),az H H'->iE sg st rs=some y->∀p,H' p=none->1<=sizeLine/\∀d,ax H' p (.tup (F7 y)) d=none->E (.ref zda) (some d) (ax (ax H' p (.tup (F7 y))) d (.xd [("why",.ref p)])):=
   λH' y sm hy p hp=>⟨al ⋯,λd hd=>(bad y hy).made sm hp hd⟩
  walk_at "n";refine⟨sg,rfl,hsg,λH1 sm1=>⟨_,rfl,?_⟩⟩;unfold iE at good tupw;cases e1:eJ sg with
  |false=>
   rw[if_pos rfl];rw[if_pos e1]at tupw;exact⟨al ⋯,tupw H1 _ sm1 rfl⟩
  |true=>
  rw[if_neg nofun];rw[if_neg (by rw[e1];decide)]at good tupw;refine h1 _ _ ?_;clear h1;walk_at "o";refine⟨st,rfl,⋯,λH2 sm2=>⟨_,rfl,?_⟩⟩;have sm12:=sm1.trans sm2;cases e2:dz st with
  |false=>
   rw[if_pos rfl];rw[if_pos e2]at tupw;exact⟨al ⋯,tupw H2 _ sm12 rfl⟩
  |true=>
  rw[if_neg nofun];rw[if_neg (by rw[e2];decide)]at good tupw;refine h2 _ _ ?_;clear h2;have ha2:=sm12 _ _ ha;have hal:(as.map V.ref).length=rs.length:=by rw[J_];exact hrs.1
  refine am λN3 h3=>?_;walk_at "wp";refine⟨_,aS.of ha2,?_⟩;rw[hal]
  by_cases h24:24<rs.length
  ·rw[if_pos ⋯]
   rw[if_pos h24]at tupw;refine⟨_,aS.of ha2,al ⋯,?_⟩;rw[hal];exact tupw H2 _ sm12 rfl
  rw[if_neg ⋯];rw[if_neg h24]at good tupw;refine h3 _ _ ?_;clear h3;walk_at "wp";refine⟨_,aS.of ha2,?_⟩;refine kc (xs:=as.map V.ref) (λi σ H'=>az H H'/\gM (tx sg) (rs.drop i) i=gM (tx sg) rs 0/\∃x y,σ=[some (.str (tx sg)),some (.str (tx st)),some (.ref a),x,y]) ⟨sm12,rfl,_,_,rfl⟩ ?_ ?_ ?_
  ·rintro i σ H' _ ⟨sm,_⟩
   exact aS.of (sm _ _ ha)
  ·rintro i x σ H3 T hx ⟨sm,hb,x1,y1,rfl⟩ hT
   have hlt:i<rs.length:=by have:=(J8.mp hx).1;rw[hal]at this;exact this
   obtain⟨ra,hra,rfl⟩:∃ra,as[i]?=some ra/\V.ref ra=x:=by
    rw[Ka]at hx;cases e:as[i]? with
    |none=>rw[e]at hx;cases hx
    |some ra=>rw[e]at hx;exact⟨ra,rfl,Option.some.inj hx⟩
   have hrr:rs[i]?=some rs[i]:=J7 hlt;have hr4:=hk4 _ (Kf hlt);generalize rs[i]=r at hrr hr4;rw[Cq hrr]at hb;have smT:az H (ax H3 T (.tup [V.int (i:Int),V.ref ra])):=sm.trans (ae hT);have eT:ax H3 T (.tup [V.int (i:Int),V.ref ra]) T=some (.tup [V.int (i:Int),V.ref ra]):=ac;generalize ax H3 T (.tup [V.int (i:Int),V.ref ra])=H4 at smT eT ⊢;have rr:=(hrs.2 i ra r hra hrr).up smT;obtain⟨dx,pl,hra4,_⟩:=id rr;walk_at "wp";refine⟨_,bh.of eT,rfl,_,_,rfl,_,_,rfl,rfl,?_⟩;refine⟨_,(rk.icls r.1).ty hra4,_,rk4.kit r.1 0 hr4 nofun,?_⟩;have hb':(if r.1=0/\GL (tx sg) (tx r.2.sg)=false then some i else gM (tx sg) (rs.drop (i+1)) (i+1))=gM (tx sg) rs 0:=hb
   by_cases e0:r.1=0
   ·rw[if_pos (by simp[e0])]
    obtain⟨r0,v⟩:=r;have e0':r0=0:=e0;subst e0';refine⟨ra,rfl,_,_,_,hra4,rk.i0.cl,rk.a0.2.2.2,_,rfl,_,rfl,?_⟩;cases hin:GL (tx sg) (tx v.sg) with
    |false=>
     rw[if_pos hin];rw[if_pos ⟨rfl,hin⟩]at hb';rw[<- hb']at tupw;exact⟨al ⋯,tupw H4 _ smT rfl⟩
    |true=>
     rw[if_neg (by rw[show(!(Builtin.Str.occurrences (tx sg) (tx v.sg) 0 (tx sg).length 1).isEmpty)=true from hin];decide)];rw[if_neg (λz=>by rw[hin]at z;exact absurd z.2 nofun)]at hb';exact⟨smT,hb'⟩
   ·rw[if_neg (by simp[e0])]
    rw[if_neg (λz=>e0 z.1)]at hb';exact⟨smT,hb'⟩
  ·rintro σ H' ⟨sm,hb,x,y,rfl⟩
   walk_at "wp";rw[hal,List.drop_of_length_le (Kv _)]at hb;refine good ?_ H' sm;rw[<- hb];rfl
noncomputable def i7(m:List (Str×List Nat))(z:Str)(i:Nat):List (Str×List Nat):=m.map λq=>if q.1=z then(q.1,q.2++[i]) else q
structure uq(H0:Hp)(p:Addr)(t:NT)(H:Hp):Prop where
 same:az H0 H
 at_:cX H p t
 fresh:∀x∈t,H0 x.2.1=none
 nodup:((jY t).map (·.1)).Nodup
theorem pF(t:NT):(jY t).length=t.length:=by unfold jY;rw[J_]
theorem q_(m:List (Str×List Nat))(z:Str):(bW m z).length<=m.length+1:=by
 unfold bW;split
 ·omega
 ·rw[Ku];simp
theorem iY(m:List (Str×List Nat))(z:Str)(i:Nat):(i7 m z i).map (·.1)=m.map (·.1):=by
 unfold i7;rw[Kl]
 apply List.map_congr_left;intro q _;simp only[Function.comp]
 split<;>rfl
theorem zR{m:List (Str×List Nat)}{j i:Nat}{q:Str×List Nat}(nd:(m.map (·.1)).Nodup)(hj:m[j]?=some q):m.set j (q.1,q.2++[i])=i7 m q.1 i:=by
 unfold i7;apply List.ext_getElem?;intro k;rw[Ka,List.getElem?_set];have hlt:j<m.length:=(J8.mp hj).1
 by_cases e:j=k
 ·subst e
  rw[if_pos rfl,if_pos hlt,hj];simp
 ·rw[if_neg e]
  cases hk:m[k]? with
  |none=>rfl
  |some y=>
   have hne:y.1≠q.1:=by
    intro h;have h1:(m.map (·.1))[j]?=some q.1:=by rw[Ka,hj];rfl
    have h2:(m.map (·.1))[k]?=some q.1:=by rw[Ka,hk];simp[h]
    exact e ((List.getElem?_inj (J8.mp h1).1 nd).mp (h1.trans h2.symm))
   simp[hne]
theorem uq.free{H0 H:Hp}{p:Addr}{t:NT}(N:uq H0 p t H){l:Addr}(h:H l=none):H0 l=none:=N.same.free h
theorem oh{te:TE}{σ:St}{H0 H:Hp}{p:Addr}{t:NT}{z:Str}{i:Nat}{Q:VK}(hp:H0 p=none)(hv:σ[i]?=some (some (.ref p)))(hte:∀R:VK,R (.str z) H->te σ H R)(N:uq H0 p t H)(hn:t.length<sizeLine)
  (h:∀(H':Hp) (t':NT) (j:Nat) (x:Str×Addr×List Nat),uq H0 p t' H'->t'[j]?=some x->x.1=z->jY t'=bW (jY t) z->t'.length<=t.length+1->(∀a o,a≠p->H a=some o->H' a=some o)->Q (.ref x.2.1) H'):vK (Ba i) te (D1 tT) σ H Q:=by
 refine⟨.ref p,hv,p,rfl,.inl ⟨_,.inl N.at_.dict⟩,hte _ ⟨Kw _,λl hl=>?_⟩⟩;have hl0:=N.free hl;refine N.at_.setdef hl hn λH' t' j x N' hj hx hm hy hk=>h H' t' j x ⟨λb o e=>hk b o (λq=>by rw[q,hp]at e;exact nomatch e) (N.same b o e),N',λy hyy=>?_,?_⟩ hj hx hm ?_ hk
 ·rcases hy y hyy with q | q
  ·exact N.fresh y q
  ·rw[q];exact hl0
 ·rw[hm];exact mH N.nodup
 ·have:=q_ (jY t) z
  rw[<- hm,pF,pF]at this;exact this
theorem uq.put{H0 H:Hp}{p:Addr}{t:NT}{j k:Nat}{x:Str×Addr×List Nat}(N:uq H0 p t H)(hj:t[j]?=some x) :
  uq H0 p (t.set j (x.1,x.2.1,x.2.2++[k])) (ax H x.2.1 (.lst (wy (x.2.2++[k]))))/\jY (t.set j (x.1,x.2.1,x.2.2++[k]))=i7 (jY t) x.1 k:=by
 have hm:=Kb hj;have e:jY (t.set j (x.1,x.2.1,x.2.2++[k]))=i7 (jY t) x.1 k:=by
  rw[DZ];exact zR (q:=(x.1,x.2.2)) N.nodup (by unfold jY;rw[Ka,hj];rfl)
 refine⟨⟨gg N.same (N.fresh x hm),N.at_.put hj,λy hy=>?_,?_⟩,e⟩
 ·rcases List.mem_or_eq_of_mem_set hy with q | q
  ·exact N.fresh y q
  ·rw[q];exact N.fresh x hm
 ·rw[e,iY];exact N.nodup
noncomputable abbrev eM:Stmt:=iZ 56
theorem lM:av ["start","rules","numbers","k","rule","part"] ["start","rules"] (ai eM):=by walk_at "c"
noncomputable def fo(m:List (Str×List Nat))(i:Nat)(r:Nat×RV):List (Str×List Nat):=((bi r.1 r.2).map tx).foldl bW (i7 (bW m (tx r.2.n)) (tx r.2.n) i)
noncomputable def gz:Nat->Yaa->List (Str×List Nat)->List (Str×List Nat)
 |_,[],m=>m
 |i,r::rs,m=>gz (i+1) rs (fo m i r)
theorem lI{m:List (Str×List Nat)}{z:Str}{n:Nat}(h:∀q∈m,q.2.length<=n):∀q∈bW m z,q.2.length<=n:=by
 unfold bW;split
 ·exact h
 ·intro q hq
  rcases Kk.mp hq with z1 | z1
  ·exact h q z1
  ·rw[J'.mp z1];exact Kw _
theorem og:∀{zs:Le} {m:List (Str×List Nat)} {n:Nat},(∀q∈m,q.2.length<=n)->∀q∈zs.foldl bW m,q.2.length<=n
 | [],_,_,h=>h
 |z::zs,_,_,h=>og (zs:=zs) (lI h)
theorem vD{m:List (Str×List Nat)}{i n:Nat}{r:Nat×RV}(h:∀q∈m,q.2.length<=n):∀q∈fo m i r,q.2.length<=n+1:=by
 unfold fo;refine og λq hq=>?_;unfold i7 at hq;obtain⟨q0,hq0,rfl⟩:=KQ.mp hq;have:=lI h q0 hq0
 split
 ·rw[Ku];simp;exact this
 ·omega
theorem ql:∀{rs:Yaa} {i n:Nat} {m:List (Str×List Nat)},(∀q∈m,q.2.length<=n)->∀q∈gz i rs m,q.2.length<=n+rs.length
 | [],_,_,_,h=>h
 |r::rs,i,n,m,h=>λq hq=>by
  have:=ql (rs:=rs) (i:=i+1) (vD (i:=i) (r:=r) h) q hq;rw[Ki];omega
theorem gC:∀{rs:Yaa} {i:Nat} {m:List (Str×List Nat)} {r:Nat×RV},gz i (rs++[r]) m=fo (gz i rs m) (i+rs.length) r
 | [],i,m,r=>rfl
 |r0::rs,i,m,r=>by
  show gz (i+1) (rs++[r]) (fo m i r0)=fo (gz (i+1) rs (fo m i r0)) (i+(rs.length+1)) r;rw[gC,show i+1+rs.length=i+(rs.length+1) by omega]
theorem xg(k:Nat)(v:RV):(bi k v).length<=2:=by
 match k with
 |0=>simp[bi]
 |1=>simp[bi]
 |2=>simp[bi]
 |_+3=>simp[bi]
noncomputable def aY(z:Str)(rs:Yaa):List (Str×List Nat):=gz 0 rs [(z,[])]
inductive gw(K:W.Frag)(R:RC)(vs:List V)(H:Hp)(Q:VK)(_E:XK):Prop
 |mk (z:Str) (a:Addr) (as:La) (rs:Yaa) (_:vs=[.str z,.ref a]) (_:H a=some (.lst (as.map V.ref))) (_:cF R H as rs) (_:rs.length<=100) (_:∀p H' t,H p=none->cX H' p t->jY t=aY z rs->(∀x∈t,H x.2.1=none)->az H H'->Q (.ref p) H')
theorem lF{R:RC}{f:Addr}{fd:Lc}(F:cy K "numbers_by_name" "numbers_by_name" eM f fd)(nb:NB mg)(rk:oI K R)(yax:oG P w K mg base bG 1 "parts" (mU K R)):aQ P w K mg base bG 2 f fd ["start","rules"] (gw K R):=by
 have sc:=lM;walk_at "f"
 ·obtain⟨r,a,_,_,rfl,_⟩:=h;rfl
 ·obtain⟨z,a,as,rs,rfl,ha,hrs,hn,q⟩:=h
  refine⟨_,(af (aB (i:=2) sc.nd rfl (Or.inl rfl) (Ew (Dk (pv 0) (bH ad) Ep) rfl rfl (by simp) nofun))
   (af (bw PassesOwn.never rfl (oR rfl nb.enumerate (aa (pv 1) ad)) (fG (n:=2) rfl (aK (ay (i:=3) sc.nd rfl (Or.inl rfl)) (aK (ay (i:=4) sc.nd rfl (Or.inl rfl)) cW)))
   (af (bv (ic PySem.F.plainAttrs_list PySem.F.slot_list_append PySem.F.type_list_append dN (pO (pv 2) (bA (pv 4) rfl) (bH ad) ⟨rfl,rfl,rfl,rfl⟩) (aa (pv 3) ad)))
   (ah (bw PassesOwn.never rfl (cE (vx yax (hr.mono nofun) ba (pv 4))) (ay (i:=5) sc.nd rfl (Or.inl rfl))
   (ah (bv (pO (pv 2) (pv 5) (bH ad) ⟨rfl,rfl,rfl,rfl⟩)))))))
   (ah (aE (pv 2))))),?_⟩
  walk_at "wp";intro p hp;refine⟨Kw _,λl hl=>?_⟩;have hlp:l≠p:=λe=>by rw[e,ac]at hl;exact nomatch hl
  have hl0:H l=none:=by rw[ao hlp]at hl;exact hl
  have hap:a≠p:=λe=>by rw[e,hp]at ha;exact nomatch ha
  have hal:a≠l:=λe=>by rw[e,hl0]at ha;exact nomatch ha
  refine⟨by rw[ao (Ne.symm hlp),ac],[(.inr z,.ref l)],rfl,by simp,as.map V.ref,aS.of (by rw[ao hap,ao hal,ao hap];exact ha),?_⟩;refine kc (xs:=as.map V.ref) (λi σ H'=>az H H'/\∃t,cX H' p t/\(∀x∈t,H x.2.1=none)/\((jY t).map (·.1)).Nodup/\jY t=gz 0 (rs.take i) [(z,[])]/\t.length<=1+3*i/\∃x y u,σ=[some (.str z),some (.ref a),some (.ref p),x,y,u]) ?_ ?_ ?_ ?_
  ·refine⟨λb o e=>?_,[(z,l,[])],⟨by rw[ac];rfl,λx hx=>?_,by simp⟩,λx hx=>?_,by simp[jY],rfl,by simp,_,_,_,rfl⟩
   ·have h1:b≠p:=λq=>by rw[q,hp]at e;exact nomatch e
    have h2:b≠l:=λq=>by rw[q,hl0]at e;exact nomatch e
    rw[ao h1,ao h2,ao h1];exact e
   ·rw[J'.mp hx,ao hlp,ac];rfl
   ·rw[J'.mp hx];exact hl0
  ·rintro i σ H' _ ⟨sm,_⟩
   exact aS.of (sm _ _ ha)
  ·rintro i x σ H1 T hx ⟨sm,t,N,fr,nd,em,hlen,x1,y1,u1,rfl⟩ hT
   have hlt:i<rs.length:=by have:=(J8.mp hx).1;rw[J_,hrs.1]at this;exact this
   obtain⟨ra,hra,rfl⟩:∃ra,as[i]?=some ra/\V.ref ra=x:=by
    rw[Ka]at hx;cases e:as[i]? with
    |none=>rw[e]at hx;cases hx
    |some ra=>rw[e]at hx;exact⟨ra,rfl,Option.some.inj hx⟩
   have hrr:rs[i]?=some rs[i]:=J7 hlt;generalize rs[i]=r at hrr;have rr:=hrs.2 i ra r hra hrr;have smT:az H (ax H1 T (.tup [V.int (i:Int),V.ref ra])):=sm.trans (ae hT);have gT:∀b o,H1 b=some o->ax H1 T (.tup [V.int (i:Int),V.ref ra]) b=some o:=ae hT;have eT:bh K (ax H1 T (.tup [V.int (i:Int),V.ref ra])) T [V.int (i:Int),V.ref ra]:=bh.of ac;have N2:=N.grow gT;generalize ax H1 T (.tup [V.int (i:Int),V.ref ra])=H2 at smT gT eT N2 ⊢;clear gT N hT sm H1;simp only[BZ,yu,ld,D9];refine⟨_,_,rfl,eT,rfl,_,_,rfl,_,_,rfl,rfl,?_⟩;refine am λN1 h1=>?_;have rr2:=rr.up smT;have NI:uq H p t H2:=⟨smT,N2,fr,nd⟩;have hz:sizeLine>1000:=bf nofun;obtain⟨dx,pl,hra2,_⟩:=id rr2;walk_at "wp";refine oh (z:=tx r.2.n) hp rfl (λS hS=>⟨_,rfl,ra,_,dx,_,_,rfl,hra2,(rk.icls r.1).cl,(rk.name r.1).1,(iN pl r.2 r.1).1,hS⟩) NI ⋯ λH3 t3 j x N3 hj hx hm hl3 hk=>?_;have hxl:=N3.at_.list x (Kb hj);refine⟨.inl ⟨rfl,_,aS.of hxl⟩,_,rfl,_,hxl,?_,h1 _ _ ?_⟩
   ·have h2:(x.1,x.2.2)∈bW (jY t) (tx r.2.n):=by rw[<- hm];exact KQ.mpr ⟨x,Kb hj,rfl⟩
    have h3:=lI (ql (rs:=rs.take i) (i:=0) (n:=0) (m:=[(z,[])]) (λq hq=>by rw[J'.mp hq];exact Kw _)) (z:=tx r.2.n) (x.1,x.2.2) (by rw[<- em];exact h2);rw[KM]at h3;unfold wy;rw[J_];have h4:x.2.2.length<=100:=by simp at h3;omega
    omega
   clear h1;obtain⟨N4,hm4⟩:=N3.put (k:=i) hj;have hl4:(t3.set j (x.1,x.2.1,x.2.2++[i])).length<=t.length+1:=by rw[List.length_set];exact hl3
   have hm4:jY (t3.set j (x.1,x.2.1,x.2.2++[i]))=i7 (bW (jY t) (tx r.2.n)) (tx r.2.n) i:=by rw[hm4,hm,hx]
   have eI:wy (x.2.2++[i])=wy x.2.2++[V.int (i:Int)]:=by unfold wy;rw[Kj];rfl
   rw[eI]at N4;generalize t3.set j (x.1,x.2.1,x.2.2++[i])=t4 at N4 hm4 hl4;generalize ax H3 x.2.1 (.lst (wy x.2.2++[V.int (i:Int)]))=H4 at N4 ⊢;clear hk hxl hj N3 hm hl3 hx NI N2 hra2 rr2;have rr4:=rr.up N4.same;have hpk:=xg r.1 r.2;walk_at "wp";refine rN rk rr4 λlp H5 hlp hH5 sm5=>⟨lp,rfl,⟨_,aS.of hH5⟩,?_⟩;have hpp:lp≠p:=λe=>by rw[e,N4.at_.dict]at hlp;exact nomatch hlp
   refine dn (xs:=aD (bi r.1 r.2)) (λn σ H'=>n<=(bi r.1 r.2).length/\∃t',uq H p t' H'/\jY t'=(((bi r.1 r.2).take n).map tx).foldl bW (i7 (bW (jY t) (tx r.2.n)) (tx r.2.n) i)/\t'.length<=t.length+1+n/\H' lp=some (.lst (aD (bi r.1 r.2)))/\∃u,σ=[some (.str z),some (.ref a),some (.ref p),some (.int (i:Int)),some (.ref ra),u])
    ⟨Kw _,t4,⟨N4.same.trans sm5,N4.at_.grow sm5,N4.fresh,N4.nodup⟩,hm4,hl4,hH5,_,rfl⟩ ?_ ?_ ?_
   ·rintro n σ H' _ ⟨_,t',_,_,_,hH',_⟩
    exact aS.of hH'
   ·rintro n v σ H' hv ⟨hn1,t',N',hm',hl',hH',u,rfl⟩
    have hnl:n<(bi r.1 r.2).length:=by have:=(J8.mp hv).1;rwa [ar]at this
    rw[bb hnl]at hv;cases hv;walk_at "wp";refine oh (z:=tx (bi r.1 r.2)[n]) hp rfl (λS hS=>⟨_,rfl,hS⟩) N' ⋯ λH6 t6 j x N6 hj hx hm6 hl6 hk=>?_;refine⟨hnl,t6,N6,?_,⋯,hk _ _ hpp hH'⟩;rw[hm6,hm',List.take_add_one,J7 hnl,Kj,List.foldl_append]
    rfl
   ·rintro σ H' ⟨_,t',N',hm',hl',hH',u,rfl⟩
    rw[ar,KL]at hm';refine⟨N'.same,t',N'.at_,N'.fresh,N'.nodup,?_,?_,_,_,_,rfl⟩
    ·rw[hm',List.take_add_one,hrr,em]
     show _=gz 0 (rs.take i++[r]) _;rw[gC,KM,K1 (Nat.le_of_lt hlt),Nat.zero_add]
     rfl
    ·rw[ar]at hl';omega
  ·rintro σ H' ⟨sm,t,N,fr,_,em,_,x,y,u,rfl⟩
   walk_at "wp";refine q p H' t hp N ?_ fr sm;rw[em,J_,hrs.1,KL];rfl
noncomputable def hU(sg st:K7)(rs:Yaa):Option (Str×List Int):=
 match iE sg st rs with
 |some y=>some y
 |none=>if 8<(aY (tx st) rs).length then some ("names",[((aY (tx st) rs).length:Int)]) else none
noncomputable def gZ(sg st:K7)(lk pn:Addr):List (Str×V):=[("signs",.str (tx sg)),("start",.str (tx st)),("kept",.ref lk),("numbers",.ref pn)]
noncomputable def dC(R:RC)(H:Hp)(C dx a:Addr)(sg st:K7)(as:La)(rs:Yaa):Prop:=
 ∃lk pn t,H a=some (.ins C dx (gZ sg st lk pn))/\H lk=some (.lst (as.map V.ref))/\cF R H as rs/\cX H pn t/\jY t=aY (tx st) rs
noncomputable def tQ(R:RC)(H:Hp)(C dx a:Addr)(sg st:K7)(as:La)(rs:Yaa)(lk pn:Addr)(t:NT):Prop:=
 H a=some (.ins C dx (gZ sg st lk pn))/\H lk=some (.lst (as.map V.ref))/\cF R H as rs/\cX H pn t/\jY t=aY (tx st) rs
theorem tQ.f{R:RC}{H:Hp}{C dx a:Addr}{sg st:K7}{as:La}{rs:Yaa}{lk pn:Addr}{t:NT}(g:tQ R H C dx a sg st as rs lk pn t):dC R H C dx a sg st as rs:=⟨lk,pn,t,g⟩
theorem dC.up{R:RC}{H H':Hp}{C dx a:Addr}{sg st:K7}{as:La}{rs:Yaa}(g:dC R H C dx a sg st as rs)(s:az H H'):dC R H' C dx a sg st as rs:=by
 obtain⟨lk,pn,t,h1,h2,h3,h4,h5⟩:=g;exact⟨lk,pn,t,s _ _ h1,s _ _ h2,h3.up s,h4.grow s,h5⟩
noncomputable def D5(a C:Addr)(H:Hp)(y:Str×List Int)(E:XK):Prop:=∀(t d:Addr) (H':Hp),bQ a H H'->H' t=some (.tup (F7 y))->H' d=some (.xd [("why",.ref t)])->E (.ref C) (some d) H'
theorem Ek(k:Nat)(l:Addr)(v:RV):wb k l v≠[]:=λe=>by
 have:=(iN l v k).1;rw[e]at this;exact nomatch this
theorem cF.upX{R:RC}{H H':Hp}{a C dx:Addr}{as:La}{rs:Yaa}(h:cF R H as rs)(ha:H a=some (.ins C dx []))(s:bQ a H H'):cF R H' as rs:=by
 refine⟨h.1,λi b r e1 e2=>?_⟩;obtain⟨d,l,h1,h2⟩:=h.2 i b r e1 e2;refine⟨d,l,s _ _ (λe=>?_) h1,s _ _ (λe=>?_) h2⟩
 ·rw[e,ha]at h1
  have:=Option.some.inj h1;exact absurd (HO.ins.inj this).2.2.symm (Ek _ _ _)
 ·rw[e,ha]at h2;cases h2
noncomputable abbrev dS:Stmt:=eQ 53 0
inductive i5(K:W.Frag)(R:RC)(CF:Addr)(vs:List V)(H:Hp)(Q:VK)(E:XK):Prop
 |mk (a C dx l:Addr) (sg st:K7) (as:La) (rs:Yaa) (_:vs=[.ref a,.str (tx sg),.str (tx st),.ref l]) (_:H a=some (.ins C dx [])) (_:lW K C) (_:(aq K C "signs"/\aq K C "start"/\aq K C "kept"/\aq K C "numbers")) (_:sg.length<=1000) (_:st.length<=1000) (_:H l=some (.lst (as.map V.ref))) (_:cF R H as rs) (_:(∀r∈rs,r.1<4)) (_:rs.length<=100) (_:(hU sg st rs=none->∀H' lk pn t,bQ a H H'->tQ R H' C dx a sg st as rs lk pn t->H lk=none->H pn=none->(∀x∈t,H x.2.1=none)->Q .non H')) (_:∀y,hU sg st rs=some y->D5 a CF H y E)
theorem uV:av ["self","signs","start","rules"] ["self","signs","start","rules"] (ai dS):=by walk_at "c"
theorem tX{R:RC}{f zda:Addr}{fd:Lc}{t1:Tok}(F:cy K "__init__" "Grammar.__init__" dS f fd)(nb:NB mg)(ybl:mg "MOST_NAMES"=some (.int 8 t1))
  (zua:mg "NoGrammar"=some (.ref zda)) (zna:XI P w K mg base 1 zda "why") (ybj:eR P w K mg base (bz P w) 3 "check_made_of" ["signs","start","rules"] (im R zda)) (ya8:eR P w K mg base bG 2 "numbers_by_name" ["start","rules"] (gw K R)) :
  aQ P w K mg base (bz P w) 4 f fd ["self","signs","start","rules"] (i5 K R zda):=by
 have sc:=uV;walk_at "x"
 ·obtain⟨a,C,dx,l,sg,st,as,rs,rfl,_⟩:=h;rfl
 ·obtain⟨a,C,dx,l,sg,st,as,rs,rfl,ha,cl,⟨n1,n2,n3,n4⟩,hsg,hst,hl,hrs,hk4,hn,good,bad⟩:=h
  refine⟨_,(af (bv (aI (E:=E) ybj (hr.mono nofun) rfl (aV λ_ _ _ h=>h) (aa (ak 1) (aa (ak 2) (aa (ak 3) ad)))))
   (af (c8 (ak 0) (ak 1) rfl)
   (af (c8 (ak 0) (ak 2) rfl)
   (af (c8 (ak 0) (d9 cK rfl nb.list iR (aa (ak 3) ad)) rfl)
   (af (c8 (ak 0) (aI (CX:=bz P w) ya8.lift (hr.mono nofun) rfl bc (aa (ak 2) (aa (ak 3) ad))) rfl)
   (ah (bE (aH (bd.m0 jo) (aA sr rfl nb.len aW (aa (bA (ak 0) rfl) ad)) (dG (v:=.int 8) rfl ybl ⟨_,rfl⟩) (aO _))
   (ah (d_ zna (hr.mono nofun) rfl rfl zua (d8 λ_ _ _ h=>h) (aa (aL (bL (aa (aA sr rfl nb.len aW (aa (bA (ak 0) rfl) ad)) ad))) ad)))
   aM))))))),?_⟩
  walk_at "n";refine⟨sg,st,l,as,rs,rfl,hsg,hst,hl,hrs,hk4,hn,λg0 H1 sm1=>h1 _ _ ?_,λy hy t d H' sm ht hd=>bad y (by unfold hU;rw[hy]) t d H' (.of sm) ht hd⟩;clear h1;have ha1:=sm1 _ _ ha;have hla:l≠a:=λe=>by rw[e,ha]at hl;cases hl
  walk_at "o";refine⟨C,dx,_,ha1,cl,n1,by simp,h2 _ _ ?_⟩;clear h2;have sx2:bQ a H (ax H1 a (.ins C dx [("signs",.str (tx sg))])):=(bQ.of sm1).put;have ea2:ax H1 a (.ins C dx [("signs",.str (tx sg))]) a=some (.ins C dx [("signs",.str (tx sg))]):=ac;show _;change Aa _ _ _ _ (ax H1 a (.ins C dx [("signs",.str (tx sg))]));generalize ax H1 a (.ins C dx [("signs",.str (tx sg))])=H2 at sx2 ea2 ⊢;clear sm1 ha1;refine am λN3 h3=>?_;walk_at "wp";have d1:¬ (("signs":Str)="start"):=by decide +kernel
  have e3:cI "start" (V.str (tx st)) [(("signs":Str),V.str (tx sg))]=[(("signs":Str),V.str (tx sg)),(("start":Str),V.str (tx st))]:=by simp only[cI,if_neg d1]
  refine⟨C,dx,_,ea2,cl,n2,by simp,?_⟩;rw[e3];refine h3 _ _ ?_;clear h3;have sx3:bQ a H (ax H2 a (.ins C dx [(("signs":Str),V.str (tx sg)),(("start":Str),V.str (tx st))])):=sx2.put;have ea3:ax H2 a (.ins C dx [(("signs":Str),V.str (tx sg)),(("start":Str),V.str (tx st))]) a=some (.ins C dx [(("signs":Str),V.str (tx sg)),(("start":Str),V.str (tx st))]):=ac;generalize ax H2 a (.ins C dx [(("signs":Str),V.str (tx sg)),(("start":Str),V.str (tx st))])=H3 at sx3 ea3 ⊢;clear sx2 ea2;have hl3:=sx3 _ _ hla hl;refine am λN4 h4=>?_;walk_at "wp";refine⟨_,.inl (aS.of hl3),λlk hlk=>?_⟩;have hka:lk≠a:=λe=>by rw[e,ea3]at hlk;cases hlk
  have hlk0:lk≠l:=λe=>by rw[e,hl3]at hlk;cases hlk
  have sk:az H3 (ax H3 lk (.lst (as.map V.ref))):=ae hlk;have ek:ax H3 lk (.lst (as.map V.ref)) lk=some (.lst (as.map V.ref)):=ac;have fr1:H lk=none:=by
   cases e:H lk with
   |none=>rfl
   |some u=>rw[sx3 _ _ hka e]at hlk;cases hlk
  generalize ax H3 lk (.lst (as.map V.ref))=H4 at sk ek ⊢;have d2:¬ (("signs":Str)="kept"):=by decide +kernel
  have d3:¬ (("start":Str)="kept"):=by decide +kernel
  have e4:cI "kept" (V.ref lk) [(("signs":Str),V.str (tx sg)),(("start":Str),V.str (tx st))]=[(("signs":Str),V.str (tx sg)),(("start":Str),V.str (tx st)),(("kept":Str),V.ref lk)]:=by simp only[cI,if_neg d2,if_neg d3]
  refine⟨C,dx,_,sk _ _ ea3,cl,n3,by simp,?_⟩;rw[e4];refine h4 _ _ ?_;clear h4;have sx5:bQ a H (ax H4 a (.ins C dx [(("signs":Str),V.str (tx sg)),(("start":Str),V.str (tx st)),(("kept":Str),V.ref lk)])):=(sx3.then sk).put;have ea5:ax H4 a (.ins C dx [(("signs":Str),V.str (tx sg)),(("start":Str),V.str (tx st)),(("kept":Str),V.ref lk)]) a=some (.ins C dx [(("signs":Str),V.str (tx sg)),(("start":Str),V.str (tx st)),(("kept":Str),V.ref lk)]):=ac;have ek5:ax H4 a (.ins C dx [(("signs":Str),V.str (tx sg)),(("start":Str),V.str (tx st)),(("kept":Str),V.ref lk)]) lk=some (.lst (as.map V.ref)):=by rw[ao hka];exact ek
  generalize ax H4 a (.ins C dx [(("signs":Str),V.str (tx sg)),(("start":Str),V.str (tx st)),(("kept":Str),V.ref lk)])=H5 at sx5 ea5 ek5 ⊢;refine am λN5 h5=>?_;walk_at "wp";refine⟨tx st,l,as,rs,rfl,sx5 _ _ hla hl,hrs.upX ha sx5,hn,λpn H6 t hpn hN hm hfr sm6=>?_⟩;have hpa:pn≠a:=λe=>by rw[e,ea5]at hpn;cases hpn
  have hpk:pn≠lk:=λe=>by rw[e,ek5]at hpn;cases hpn
  have fr2:H pn=none:=by
   cases e:H pn with
   |none=>rfl
   |some u=>rw[sx5 _ _ hpa e]at hpn;cases hpn
  have fr3:∀x∈t,H x.2.1=none:=λx hx=>by
   have h5x:=hfr x hx;cases e:H x.2.1 with
   |none=>rfl
   |some u=>rw[sx5 _ _ (λz=>by rw[z,ea5]at h5x;cases h5x) e]at h5x;cases h5x
  have d4:¬ (("signs":Str)="numbers"):=by decide +kernel
  have d5:¬ (("start":Str)="numbers"):=by decide +kernel
  have d6:¬ (("kept":Str)="numbers"):=by decide +kernel
  have e6:cI "numbers" (V.ref pn) [(("signs":Str),V.str (tx sg)),(("start":Str),V.str (tx st)),(("kept":Str),V.ref lk)]=gZ sg st lk pn:=by unfold gZ;simp only[cI,if_neg d4,if_neg d5,if_neg d6]
  have ea6:=sm6 _ _ ea5;refine⟨C,dx,_,ea6,cl,n4,by simp,?_⟩;rw[e6];refine h5 _ _ ?_;clear h5;have sx7:bQ a H (ax H6 a (.ins C dx (gZ sg st lk pn))):=(sx5.then sm6).put;have gf:tQ R (ax H6 a (.ins C dx (gZ sg st lk pn))) C dx a sg st as rs lk pn t:=by
   refine⟨ac,by rw[ao hka];exact sm6 _ _ ek5,hrs.upX ha sx7,⟨by rw[ao hpa];exact hN.dict,λx hx=>?_,hN.apart⟩,hm⟩;have hq:=hN.list x hx;rw[ao (λe=>by rw[e,ea6]at hq;cases hq)];exact hq
  have ea7:ax H6 a (.ins C dx (gZ sg st lk pn)) a=some (.ins C dx (gZ sg st lk pn)):=ac;have ed7:ax H6 a (.ins C dx (gZ sg st lk pn)) pn=some (.dK (ww t)):=by rw[ao hpa];exact hN.dict
  generalize ax H6 a (.ins C dx (gZ sg st lk pn))=H7 at sx7 gf ea7 ed7 ⊢;have hlen:(ww t).length=(aY (tx st) rs).length:=by rw[<- hm];unfold ww jY;rw[J_,J_]
  walk_at "wp";refine⟨C,dx,_,ea7,cl,n4,_,rfl,pn,rfl,_,ed7,?_⟩;rw[hlen]
  by_cases h8:8<(aY (tx st) rs).length
  ·rw[if_pos ⋯]
   refine⟨C,dx,_,ea7,cl,n4,_,rfl,pn,rfl,_,ed7,al ⋯,λp hp=>⟨al ⋯,λd hd=>?_⟩⟩;rw[hlen]at hd ⊢;have hdp:p≠d:=λx=>by rw[<- x,ac]at hd;cases hd
   refine bad ("names",[((aY (tx st) rs).length:Int)]) (by unfold hU;rw[g0];simp only[];rw[if_pos h8]) p d _ (((sx7.then (ae hp))).then (ae hd)) (by rw[ao hdp,ac];rfl) ac
  ·rw[if_neg ⋯]
   exact good (by unfold hU;rw[g0];simp only[];rw[if_neg h8]) H7 lk pn t sx7 gf fr1 fr2 fr3
noncomputable abbrev dU:Stmt:=eQ 53 2
inductive b6(R:RC)(C:Addr)(vs:List V)(H:Hp)(Q:VK)(_E:XK):Prop
 |mk (a dx:Addr) (sg st:K7) (as:La) (rs:Yaa) (k:Nat) (b:Addr) (_:vs=[.ref a,.int (k:Int)]) (_:dC R H C dx a sg st as rs) (_:as[k]?=some b) (_:Q (.ref b) H)
theorem tU:av ["self","k"] ["self","k"] (ai dU):=by walk_at "c"
theorem tS{R:RC}{f C:Addr}{fd:Lc}(F:cy K "rule" "Grammar.rule" dU f fd)(nb:NB mg)(cl:lW K C)(na:aq K C "signs"/\aq K C "start"/\aq K C "kept"/\aq K C "numbers"):aQ P w K mg base bG 1 f fd ["self","k"] (b6 R C):=by
 have sc:=tU;walk_at "f"
 ·obtain⟨a,dx,sg,st,as,rs,k,b,rfl,_⟩:=h;rfl
 ·obtain⟨a,dx,sg,st,as,rs,k,b,rfl,g,hb,q⟩:=h
  obtain⟨lk,pn,t,ha,hk,hrs,hN,hm⟩:=id g;have hu:=hr.units;refine⟨_,(ah (aE (aF aZ (bA (ak 0) rfl) (ak 1) (λ_ _=>rfl)))),?_⟩;walk_at "wp";exact⟨C,dx,_,ha,cl,na.2.2.1,_,rfl,lk,rfl,_,aS.of hk,_,bx (by rw[Ka,hb];rfl),q⟩
noncomputable abbrev dQ:Stmt:=eQ 53 3
inductive iX(R:RC)(C:Addr)(vs:List V)(H:Hp)(Q:VK)(_E:XK):Prop
 |mk (a dx:Addr) (sg st:K7) (as:La) (rs:Yaa) (_:vs=[.ref a]) (_:dC R H C dx a sg st as rs) (_:Q (.int (rs.length:Int)) H)
theorem u4:av ["self"] ["self"] (ai dQ):=by walk_at "c"
theorem tN{R:RC}{f C:Addr}{fd:Lc}(F:cy K "many" "Grammar.many" dQ f fd)(nb:NB mg)(cl:lW K C)(na:aq K C "signs"/\aq K C "start"/\aq K C "kept"/\aq K C "numbers"):aQ P w K mg base bG 1 f fd ["self"] (iX R C):=by
 have sc:=u4;walk_at "f"
 ·obtain⟨a,dx,sg,st,as,rs,rfl,_⟩:=h;rfl
 ·obtain⟨a,dx,sg,st,as,rs,rfl,g,q⟩:=h
  obtain⟨lk,pn,t,ha,hk,hrs,hN,hm⟩:=id g;have hu:=hr.units;refine⟨_,(ah (aE (aA a_ rfl nb.len aW (aa (bA (ak 0) rfl) ad)))),?_⟩;walk_at "wp";refine⟨C,dx,_,ha,cl,na.2.2.1,_,rfl,lk,rfl,_,aS.of hk,?_⟩;rw[J_,hrs.1];exact q
theorem sy(z:Str):∀t:NT,(jY t).lookup z=(t.find? λx=>decide (x.1=z)).map (·.2.2)
 | []=>rfl
 |x::t=>by
  have ih:=sy z t;unfold jY at ih ⊢;rw[KC,List.lookup_cons,List.find?_cons]
  by_cases e:x.1=z
  ·simp[e]
  ·have e':(z==x.1)=false:=by simpa using λh=>e h.symm
   rw[e',ih];simp[e]
noncomputable abbrev bT:Stmt:=eQ 53 5
inductive cq(R:RC)(C CN:Addr)(vs:List V)(H:Hp)(Q:VK)(E:XK):Prop
 |mk (a dx:Addr) (sg st:K7) (as:La) (rs:Yaa) (z:Str) (_:vs=[.ref a,.str z]) (_:dC R H C dx a sg st as rs) (_:(∀ns,(aY (tx st) rs).lookup z=some ns->∀l H',H l=none->H' l=some (.lst (wy ns))->az H H'->Q (.ref l) H')) (_:((aY (tx st) rs).lookup z=none->E (.ref CN) none H))
theorem lU:av ["self","name"] ["self","name"] (ai bT):=by walk_at "c"
theorem lH{R:RC}{f C yaa:Addr}{fd:Lc}(F:cy K "numbers_of" "Grammar.numbers_of" bT f fd)(nb:NB mg)(cl:lW K C)(na:aq K C "signs"/\aq K C "start"/\aq K C "kept"/\aq K C "numbers")(ybp:mg "NoName"=some (.ref yaa))(ybi:XR K yaa):aQ P w K mg base (bz P w) 1 f fd ["self","name"] (cq R C yaa):=by
 have sc:=lU;walk_at "x"
 ·obtain⟨a,dx,sg,st,as,rs,z,rfl,_⟩:=h;rfl
 ·obtain⟨a,dx,sg,st,as,rs,z,rfl,g,q,x⟩:=h
  obtain⟨lk,pn,t,ha,hk,hrs,hN,hm⟩:=id g;have hu:=hr.units;refine⟨_,(af (bE (BJ (rF (KO (KS (by decide:1<=64) _) hu) (ak 1) (bA (ak 0) rfl)) (by with_unfolding_all rfl))
   (ah (dq ybi rfl rfl ybp (eD λ_ _ _ h=>h) (bL ad)))
   aM)
   (ah (aE (d9 cK rfl nb.list iR (aa (uA (KO (KS (by decide:1<=64) _) hu) (bA (ak 0) rfl) (ak 1) (λ_ _=>rfl)) ad))))),?_⟩
  walk_at "wp";have key:=sy z t;have val:=wH z t;rw[hm]at key;refine⟨C,dx,_,ha,cl,na.2.2.2,_,rfl,pn,rfl,?_⟩;refine⟨_,.inl ⟨_,.inr z,.inl hN.dict,rfl,rfl⟩,?_⟩;cases hf:t.find? (λx=>decide (x.1=z)) with
  |none=>
   rw[hf]at key val;rw[val];rw[if_pos (by simp)];exact⟨al ⋯,x key⟩
  |some y=>
   rw[hf]at key val;rw[val];rw[if_neg (by simp)];have hy:=hN.list y (List.mem_of_find?_eq_some hf);exact⟨C,dx,_,ha,cl,na.2.2.2,_,rfl,pn,rfl,_,.inl ⟨_,.inr z,.inl hN.dict,rfl,val.symm⟩,_,rfl,_,.inl (aS.of hy),λl hl=>q _ key l _ hl ac (ae hl)⟩
noncomputable abbrev tH:Stmt:=iZ 14
inductive jQ(K:W.Frag)(CF:Addr)(vs:List V)(H:Hp)(Q:VK)(E:XK):Prop
 |mk (a b:Addr) (p q:bF) (r c r' c':Nat) (_:vs=[.ref a,.ref b]) (_:H a=some (.lst (aD p))) (_:H b=some (.lst (aD q))) (_:fg p r c) (_:fg q r' c') (_:0<r) (_:r<=6) (_:c<=6) (_:0<r') (_:r'<=6) (_:c'<=6) (_:(c=c'/\r+r'<=6->cQ H (p++q) Q)) (_:(¬ (c=c'/\r+r'<=6)->E (.ref CF) none H))
theorem B9:av ["one","other"] ["one","other"] (ai tH):=by walk_at "c"
theorem C9{f zia:Addr}{fd:Lc}{tk:Tok}(F:cy K "above" "above" tH f fd)(nb:NB mg)(yah:mg "MOST"=some (.int 6 tk))(zvb:mg "NoFit"=some (.ref zia))(znb:XR K zia):aQ P w K mg base (bz P w) 1 f fd ["one","other"] (jQ K zia):=by
 have sc:=B9;walk_at "x"
 ·obtain⟨a,b,p,q,r,c,r',c',rfl,_⟩:=h;rfl
 ·obtain⟨a,b,p,q,r,c,r',c',rfl,ha,hb,hp,hq,hr0,hr1,hc1,hr0',hr1',hc1',fit,yar⟩:=h
  refine⟨_,(af (bE (PW.pt (lm (aH rG (aA aU rfl nb.len aW (aa (aF aZ (ak 0) aj (λ_ _=>rfl)) ad)) (aA aU rfl nb.len aW (aa (aF aZ (ak 1) aj (λ_ _=>rfl)) ad)) (aO _)) (gO (aH (bd.m0 jo) (aw (bd.m0 bN) (aA a_ rfl nb.len aW (aa (ak 0) ad)) (aA a_ rfl nb.len aW (aa (ak 1) ad))) (dG (v:=.int 6) rfl yah ⟨_,rfl⟩) (aO _)))))
   (ah (dq znb rfl rfl zvb (eD λ_ _ _ h=>h) (bL ad)))
   aM)
   (ah (aE (aw yl (ak 0) (ak 1))))),?_⟩
  walk_at "wp";obtain⟨hl0,hc0⟩:=fB hp hr0;obtain⟨hl0',hc0'⟩:=fB hq hr0';refine⟨_,aS.of ha,_,bx (bb hl0),_,rfl,by rw[au];exact al ⋯,_,aS.of hb,_,bx (bb hl0'),_,rfl,by rw[au];exact al ⋯,?_⟩;rw[au,au,hc0,hc0']
  by_cases h1:(c:Int)=(c':Int)
  ·rw[if_neg (λh=>h h1)]
   refine⟨_,aS.of ha,_,aS.of hb,?_⟩;rw[ar,ar,hp.1,hq.1]
   by_cases h2:6<(r:Int)+(r':Int)
   ·rw[if_pos h2]
    exact⟨al ⋯,yar ⋯⟩
   ·rw[if_neg h2]
    refine⟨_,ha,_,hb,by rw[ar,ar,hp.1,hq.1];exact al ⋯,λl hl=>?_⟩;refine fit ⟨⋯,⋯⟩ l _ hl ?_ (ae hl);rw[ac];unfold aD;rw[Kj]
  ·rw[if_pos h1]
   exact⟨al ⋯,yar ⋯⟩
noncomputable abbrev pW:Stmt:=iZ 13
noncomputable def put2(p q:bF):bF:=(p.zip q).map λx=>x.1++x.2
inductive iu(K:W.Frag)(CF:Addr)(vs:List V)(H:Hp)(Q:VK)(E:XK):Prop
 |mk (a b:Addr) (p q:bF) (r c r' c':Nat) (_:vs=[.ref a,.ref b]) (_:H a=some (.lst (aD p))) (_:H b=some (.lst (aD q))) (_:fg p r c) (_:fg q r' c') (_:0<r) (_:r<=6) (_:c<=6) (_:0<r') (_:r'<=6) (_:c'<=6) (_:(r=r'/\c+c'<=6->cQ H (put2 p q) Q)) (_:(¬ (r=r'/\c+c'<=6)->E (.ref CF) none H))
theorem y9:av ["one","other"] ["one","other"] (ai pW):=by walk_at "c"
theorem zM{f zia:Addr}{fd:Lc}{tk:Tok}(F:cy K "beside" "beside" pW f fd)(nb:NB mg)(yah:mg "MOST"=some (.int 6 tk))(zvb:mg "NoFit"=some (.ref zia))(znb:XR K zia):aQ P w K mg base (bz P w) 1 f fd ["one","other"] (iu K zia):=by
 have sc:=y9;walk_at "x"
 ·obtain⟨a,b,p,q,r,c,r',c',rfl,_⟩:=h;rfl
 ·obtain⟨a,b,p,q,r,c,r',c',rfl,ha,hb,hp,hq,hr0,hr1,hc1,hr0',hr1',hc1',fit,yar⟩:=h
  refine⟨_,(af (bE (PW.pt (lm (aH rG (aA a_ rfl nb.len aW (aa (ak 0) ad)) (aA a_ rfl nb.len aW (aa (ak 1) ad)) (aO _)) (gO (aH (bd.m0 jo) (aw (bd.m0 bN) (aA aU rfl nb.len aW (aa (aF aZ (ak 0) aj (λ_ _=>rfl)) ad)) (aA aU rfl nb.len aW (aa (aF aZ (ak 1) aj (λ_ _=>rfl)) ad))) (dG (v:=.int 6) rfl yah ⟨_,rfl⟩) (aO _)))))
   (ah (dq znb rfl rfl zvb (eD λ_ _ _ h=>h) (bL ad)))
   aM)
   (ah (aE (cH ["first","second"] [] rfl (bB.of (by kernel_rfl)) (by kernel_rfl) (Cb rfl nb.zip (aa (ak 0) (aa (ak 1) ad)))
    (λ_ _ _ _=>(sN (K:=K) (n:=2) rfl rfl (aK (ay (i:=0) (by show(["first","second"]:List Str).Nodup;decide +kernel) rfl (Or.inl rfl)) (aK (ay (i:=1) (by show(["first","second"]:List Str).Nodup;decide +kernel) rfl (Or.inl rfl)) cW)))) (λ_ _ _ _=>bU) (λ_ _ _ _=>(aw iM (ak 0) (ak 1))))))),?_⟩
  walk_at "wp";obtain⟨hl0,hc0⟩:=fB hp hr0;obtain⟨hl0',hc0'⟩:=fB hq hr0';refine⟨_,aS.of ha,_,aS.of hb,?_⟩;rw[ar,ar,hp.1,hq.1]
  by_cases h1:(r:Int)=(r':Int)
  ·rw[if_neg (λh=>h h1)]
   refine⟨_,aS.of ha,_,bx (bb hl0),_,rfl,by rw[au];exact al ⋯,_,aS.of hb,_,bx (bb hl0'),_,rfl,by rw[au];exact al ⋯,?_⟩;rw[au,au,hc0,hc0']
   by_cases h2:6<(c:Int)+(c':Int)
   ·rw[if_pos h2]
    exact⟨al ⋯,yar ⋯⟩
   ·rw[if_neg h2]
    refine⟨_,aS.of ha,_,aS.of hb,?_⟩;have yay:p.length=r:=hp.1;have yaL:q.length=r:=by rw[hq.1];omega
    have hput:(put2 p q).length=r:=by unfold put2;rw[J_,List.length_zip,yay,yaL,Nat.min_self]
    refine vT (xs:=aD p) (ys:=aD q) (n:=r) (by rw[ar,ar,yay,yaL,Nat.min_self]) (λi acc σ H'=>az H H'/\acc=aD ((put2 p q).take i)/\i<=r/\∃y z,σ=[y,z]) ⟨λ_ _ e=>e,rfl,Kw _,_,_,rfl⟩ ?_ ?_ ?_ ?_ ?_
    ·rintro i acc σ H' ⟨_,rfl,hi,_⟩
     rw[ar,KM];exact bf ⋯
    ·rintro i acc σ H' ⟨_,_,h,_⟩
     exact h
    ·rintro i acc σ H' ⟨sm,_⟩
     exact⟨aS.of (sm _ _ ha),aS.of (sm _ _ hb)⟩
    ·rintro i x y acc σ H' T hx hy ⟨sm,rfl,_,y1,z1,rfl⟩ hT
     have hi:i<p.length:=by have:=(J8.mp hx).1;rwa [ar]at this
     have hi':i<q.length:=by omega
     rw[bb hi]at hx;rw[bb hi']at hy;cases hx;cases hy;have hrow:=hp.2 _ (Kf hi);have ydF:=hq.2 _ (Kf hi');walk_at "wp";refine⟨_,bh.of ac,rfl,_,_,rfl,_,_,rfl,rfl,?_⟩;have e:(put2 p q)[i]?=some (p[i]++q[i]):=by
      unfold put2;simp[List.getElem?_zip_eq_some,hi,hi'];exact⟨_,_,⟨rfl,rfl⟩,rfl⟩
     have et:tx p[i]++tx q[i]=tx (p[i]++q[i]):=by
      show(⟨_++_⟩:Str)=⟨_⟩;simp[tx]
     refine⟨_,rfl,_,rfl,by rw[au,au];exact al ⋯,sm.trans (ae hT),?_,⋯⟩;rw[et,List.take_add_one,e];exact(eN _ _).symm
    ·rintro acc σ H' ⟨sm,rfl,_⟩ l hl
     refine fit ⟨⋯,⋯⟩ l _ (sm.free hl) ?_ (sm.trans (ae hl));rw[ac,<- hput,KL]
  ·rw[if_pos h1]
   exact⟨al ⋯,yar ⋯⟩
noncomputable abbrev qf:Stmt:=iZ 17
inductive rJ(K:W.Frag)(vs:List V)(H:Hp)(Q:VK)(_E:XK):Prop
 |mk (a:Addr) (p:bF) (_:vs=[.ref a]) (_:aS K H a (aD p)) (_:rR p) (_:cQ H (fH p) Q)
theorem AM:av ["picture"] ["picture"] (ai qf):=by walk_at "c"
theorem Bd{f:Addr}{fd:Lc}(F:cy K "mirror" "mirror" qf f fd)(nb:NB mg):aQ P w K mg base bG 1 f fd ["picture"] (rJ K):=by
 have sc:=AM;walk_at "f"
 ·obtain⟨a,p,rfl,_⟩:=h;rfl
 ·obtain⟨a,p,rfl,hS,hp,q⟩:=h
  refine⟨_,(ah (aE (cH ["row"] [] rfl (bB.of (by kernel_rfl)) (by kernel_rfl) (cE (ak 0))
    (λ_ _ _ _=>(ay (i:=0) (by show(["row"]:List Str).Nodup;decide +kernel) rfl (Or.inl rfl))) (λ_ _ _ _=>bU) (λ_ _ _ _=>(pG rfl rfl nb.reversed (aa (ak 0) ad)))))),?_⟩
  walk_at "wp";refine⟨⟨_,hS⟩,nj (xs:=aD p) (λi acc σ H'=>H'=H/\acc=aD (fH (p.take i))/\i<=p.length/\∃x,σ=[x]) ⟨rfl,rfl,Kw _,_,rfl⟩ ?_ ?_ ?_ ?_ ?_⟩
  ·rintro i acc σ H' ⟨_,rfl,_⟩
   refine bf ?_;rw[ar];unfold fH;rw[J_,KM];have:=hp.1;omega
  ·rintro i acc σ H' ⟨_,_,h,_⟩
   rw[ar];exact h
  ·rintro i acc σ H' ⟨rfl,_⟩
   exact hS
  ·rintro i x acc σ H' hx ⟨rfl,rfl,hi,y,rfl⟩
   have hl:i<p.length:=by have:=(J8.mp hx).1;rwa [ar]at this
   rw[bb hl]at hx;cases hx;have hr:=hp.2 _ (Kf hl);walk_at "wp";refine⟨by rw[au];omega,nofun,?_,hl⟩;rw[gK,fY,List.take_add_one,J7 hl];unfold fH;rw[Kj];exact(eN _ _).symm
  ·rintro acc σ H' ⟨rfl,rfl,_⟩ l hl
   rw[ar,KL];exact q l _ hl ac (ae hl)
noncomputable abbrev dA:Stmt:=iZ 19
inductive rY(K:W.Frag)(vs:List V)(H:Hp)(Q:VK)(_E:XK):Prop
 |mk (a:Addr) (p:bF) (i:Nat) (_:vs=[.ref a,.int (i:Int)]) (_:aS K H a (aD p)) (_:rR p) (_:(∀r∈p,i<r.length)) (_:∀H',az H H'->Q (.str (tx (col p i))) H')
theorem Ak:av ["picture","i"] ["picture","i"] (ai dA):=by walk_at "c"
theorem zf{f:Addr}{fd:Lc}(F:cy K "column_from_below" "column_from_below" dA f fd)(nb:NB mg):aQ P w K mg base bG 1 f fd ["picture","i"] (rY K):=by
 have sc:=Ak;walk_at "f"
 ·obtain⟨a,p,i,rfl,_⟩:=h;rfl
 ·obtain⟨a,p,i,rfl,hS,hp,hi,q⟩:=h
  refine⟨_,(ah (aE (ic PySem.F.plainAttrs_str PySem.F.slot_str_join PySem.F.type_str_join oP jX (aa (cH ["row"] [1] rfl (bB.of (by kernel_rfl)) (by kernel_rfl) (wQ rfl nb.reversed (aa (ak 0) ad))
    (λ_ _ _ _=>(ay (i:=0) (by show(["row","i"]:List Str).Nodup;decide +kernel) rfl (Or.inl rfl))) (λ_ _ _ _=>bU) (λ_ _ _ _=>(aF nM (ak 0) (ak 1) (λ_ _=>rfl)))) ad)))),?_⟩
  walk_at "wp";have hd:∀n,((p.reverse.take n).map λr=>V.str ⟨#[r.getD i 0]⟩)=(((p.reverse.take n).map λr=>r.getD i 0).map λc=>(⟨#[c]⟩:Str)).map V.str:=λn=>by rw[Kl,Kl];rfl
  refine⟨rfl,_,hS,vn (xs:=aD p) (λn acc σ H'=>H'=H/\acc=((p.reverse.take n).map λr=>V.str ⟨#[r.getD i 0]⟩)/\n<=p.length/\∃x,σ=[x,some (.int (i:Int))]) ⟨rfl,rfl,Kw _,_,rfl⟩ ?_ ?_ ?_ ?_ ?_⟩
  ·rintro n acc σ H' ⟨_,rfl,_⟩
   refine bf ?_;rw[J_,KM];have:=hp.1;rw[Ko];omega
  ·rintro n acc σ H' ⟨_,_,h,_⟩
   rw[ar];exact h
  ·rintro n acc σ H' ⟨rfl,_⟩
   exact hS
  ·rintro n x acc σ H' hx ⟨rfl,rfl,hn,y,rfl⟩
   have hl:n<p.reverse.length:=by
    have:=(J8.mp hx).1
    rwa [Ko,ar,<- Ko (as:=p)]at this
   have hx':(aD p.reverse)[n]?=some x:=by unfold aD at hx ⊢;rwa [List.map_reverse]
   rw[bb hl]at hx';cases hx';have hm:p.reverse[n]∈p:=List.mem_reverse.mp (Kf hl);have hr:=hp.2 _ hm;have hri:=hi _ hm;walk_at "wp";have hc:(tx p.reverse[n]).cps.toList[i]?=some (p.reverse[n].getD i 0):=by rw[gK,List.getD_eq_getElem?_getD,J7 hri];rfl
   refine⟨by rw[au];exact al ⋯,_,bx hc,?_,by rw[Ko]at hl;exact hl⟩;rw[List.take_add_one,J7 hl,Kj]
   rfl
  ·rintro acc σ H' ⟨rfl,rfl,_⟩ l hl
   rw[ar,<- Ko (as:=p),KL]at *;refine⟨(col p i).map λc=>(⟨#[c]⟩:Str),.inl (aS.of ?_),?_,?_⟩
   ·rw[ac];unfold col;rw[Kl,Kl];rfl
   ·rw[Kl]
    have e:((λy:Str=>y.length)∘λc=>(⟨#[c]⟩:Str))=λ_=>1:=by funext c;rfl
    rw[e,List.map_const',List.sum_replicate_nat,J_];have e0:(Str.ofString "").length=0:=rfl;rw[e0];have:=hp.1;unfold col;rw[J_,Ko];omega
   ·rw[fY];exact q _ (ae hl)
noncomputable abbrev ny:Stmt:=iZ 18
inductive i4(K:W.Frag)(vs:List V)(H:Hp)(Q:VK)(_E:XK):Prop
 |mk (a:Addr) (p:bF) (r c:Nat) (_:vs=[.ref a]) (_:aS K H a (aD p)) (_:fg p r c) (_:0<r) (_:r<=64) (_:c<=64) (_:cQ H (fV p) Q)
theorem wW:av ["picture"] ["picture"] (ai ny):=by walk_at "c"
theorem w6{f:Addr}{fd:Lc}(F:cy K "quarter" "quarter" ny f fd)(nb:NB mg)(ya2:eR P w K mg base bG 1 "column_from_below" ["picture","i"] (rY K)):aQ P w K mg base bG 2 f fd ["picture"] (i4 K):=by
 have sc:=wW;walk_at "f"
 ·obtain⟨a,p,r,c,rfl,_⟩:=h;rfl
 ·obtain⟨a,p,r,c,rfl,hS,hp,hr0,hr1,hc1,q⟩:=h
  refine⟨_,(ah (aE (cH ["i"] [0] rfl (bB.of (by kernel_rfl)) (by kernel_rfl) (dR rfl nb.range (aa (aA aU rfl nb.len aW (aa (aF aZ (ak 0) aj (λ_ _=>rfl)) ad)) ad))
    (λ_ _ _ _=>(ay (i:=0) (by show(["i","picture"]:List Str).Nodup;decide +kernel) rfl (Or.inl rfl))) (λ_ _ _ _=>bU) (λ_ _ _ _=>(aI ya2 (hr.mono nofun) rfl ba (aa (ak 1) (aa (ak 0) ad))))))),?_⟩
  walk_at "wp";have hl0:0<p.length:=by rw[hp.1];exact hr0
  have hc0:(p[0]).length=c:=hp.2 _ (Kf hl0);have hh:(p.headD []).length=c:=bp hp hr0;refine⟨_,hS,_,bx (bb hl0),_,rfl,by rw[au];exact al ⋯,by rw[au];omega,by rw[au];omega,?_⟩;rw[au,hc0,Kg];refine fh (lo:=0) (n:=c) (λi acc σ H'=>az H H'/\acc=aD ((List.range i).map (col p))/\i<=c/\∃x,σ=[x,some (.ref a)]) ⟨az.refl _,rfl,Kw _,_,rfl⟩ ?_ ?_ ?_ ?_
  ·rintro i acc σ H' ⟨_,rfl,_⟩
   refine bf ?_;rw[ar,J_,List.length_range];omega
  ·rintro i acc σ H' ⟨_,_,h,_⟩
   exact h
  ·rintro i acc σ H' hi ⟨sm,rfl,_,y,rfl⟩
   walk_at "wp";refine⟨a,p,i,by simp,sm.seq hS,rR.of hp hr1 hc1,λx hx=>by rw[hp.2 x hx];exact hi,λH2 sm2=>⟨sm.trans sm2,?_,hi⟩⟩;rw[List.range_succ,Kj];exact(eN _ _).symm
  ·rintro acc σ H' ⟨sm,rfl,_⟩ l hl
   refine q l _ (sm.free hl) ?_ (sm.trans (ae hl));rw[ac];unfold fV;rw[hh]
noncomputable abbrev qJ:Stmt:=iZ 16
inductive nw(K:W.Frag)(vs:List V)(H:Hp)(Q:VK)(_E:XK):Prop
 |mk (a:Addr) (p:bF) (r c t:Nat) (_:vs=[.ref a,.int (t:Int)]) (_:aS K H a (aD p)) (_:fg p r c) (_:0<r) (_:0<c) (_:r<=64) (_:c<=64) (_:t<8) (_:cQ H (turned p t) Q)
theorem zV:av ["picture","t","result","step"] ["picture","t"] (ai qJ):=by walk_at "c"
theorem Au{f:Addr}{fd:Lc}(F:cy K "turned" "turned" qJ f fd)(nb:NB mg)(ya3:eR P w K mg base bG 1 "mirror" ["picture"] (rJ K))(ya1:eR P w K mg base bG 2 "quarter" ["picture"] (i4 K)):aQ P w K mg base bG 3 f fd ["picture","t"] (nw K):=by
 have sc:=zV;walk_at "f"
 ·obtain⟨a,p,r,c,t,rfl,_⟩:=h;rfl
 ·obtain⟨a,p,r,c,t,rfl,hS,hp,hr0,hc0,hr1,hc1,ht,q⟩:=h
  refine⟨_,(af (aB (i:=2) sc.nd rfl (Or.inl rfl) (d9 cK rfl nb.list iR (aa (pv 0) ad)))
   (af (bE (aH EL (pv 1) aj (aO _))
   (ah (aB (i:=2) sc.nd rfl (Or.inl rfl) (aI ya3 (hr.mono nofun) rfl ba (aa (pv 2) ad))))
   aM)
   (af (bw PassesOwn.never rfl (dR rfl nb.range (aa (aw bI (pv 1) aj) ad)) (ay (i:=3) sc.nd rfl (Or.inl rfl))
   (ah (aB (i:=2) sc.nd rfl (Or.inl rfl) (aI ya1 (hr.mono nofun) rfl ba (aa (pv 2) ad)))))
   (ah (aE (pv 2)))))),?_⟩
  walk_at "wp"
  -- the bu,from the list at l
  have loop:∀(l:Addr) (p':bF) (H1:Hp),H l=none->H1 l=some (.lst (aD p'))->az H H1->fg p' r c->turned p t=bu (t%4) p' ->
    ∀(g:TG) (tb:TS) (D:iK),g=ld 3->tb=AJ (nV (i4 K) [] E0 (pi (Ba 2) tT)) (ld 2)->(∀σ' H' v,σ'[2]?=some (some v)->Q v H'->D.nx σ' H')->uS (Bm 0 ((t:Int)%4).toNat) g tb D [some (V.ref a),some (V.int t),some (V.ref l),none] H1:=by
   intro l p' H1 hl h1 sm hp' et g tb D hg htb hD;subst hg htb;have e4:((t:Int)%4).toNat=t%4:=by omega
   rw[e4];refine eW (λi σ H2=>∃(l2:Addr) (x:Option V),σ=[some (V.ref a),some (V.int t),some (V.ref l2),x]/\H l2=none/\H2 l2=some (.lst (aD (bu i p')))/\az H H2) ⟨l,none,rfl,hl,h1,sm⟩ ?_ ?_
   ·rintro i σ H2 hi ⟨l2,x,rfl,h2,h3,sm2⟩
    walk_at "wp";have hq:=cR i hp' hr0 hc0;have gp:∀r' c',fg (bu i p') r' c'->0<r'->r'<=64->c'<=64->i4 K [V.ref l2] H2 (λx_1 H1=>∃l2,x_1=V.ref l2/\H l2=none/\H1 l2=some (HO.lst (aD (bu (i+1) p')))/\az H H1) E0:=λr' c' h4 h5 h6 h7=>
     ⟨l2,bu i p',r',c',rfl,aS.of h3,h4,h5,h6,h7,λl3 H3 h8 h9 sm3=>⟨l3,rfl,sm2.free h8,by rw[h9,<- mG 1 i p'];rfl,sm2.trans sm3⟩⟩
    by_cases hi2:i%2=0
    ·rw[if_pos hi2,if_pos hi2]at hq
     exact gp r c hq hr0 hr1 hc1
    ·rw[if_neg hi2,if_neg hi2]at hq
     exact gp c r hq hc0 hc1 hr1
   ·rintro σ H2 ⟨l2,x,rfl,h2,h3,sm2⟩
    exact hD _ _ _ rfl (q l2 H2 h2 (by rw[h3,et]) sm2)
  refine⟨_,.inl hS,λl hl=>?_⟩
  split
  ·rename_i h4
   refine⟨l,p,rfl,aS.of ac,rR.of hp hr1 hc1,λl2 H2 h2 h3 sm2=>⟨⋯,⋯,?_⟩⟩;refine loop l2 (fH p) H2 ((ae hl).free h2) h3 ((ae hl).trans sm2) (gJ hp) (by unfold turned;rw[if_pos ⋯]) _ _ _ rfl rfl ?_;intro σ' H' v e hq;exact⟨v,e,hq⟩
  ·rename_i h4
   refine⟨⋯,⋯,?_⟩;refine loop l p _ hl ac (ae hl) hp (by unfold turned;rw[if_neg ⋯]) _ _ _ rfl rfl ?_;intro σ' H' v e hq;exact⟨v,e,hq⟩
noncomputable abbrev dL:Stmt:=eQ 28 1
inductive iH(C:Addr)(vs:List V)(H:Hp)(Q:VK)(_E:XK):Prop
 |mk (a dx l b:Addr) (n sg:K7) (c:Int) (_:vs=[.ref a,.ref b]) (_:H a=some (.ins C dx (EE n c l sg))) (_:cQ H [sg] Q)
theorem uR:av ["self","pictures"] ["self","pictures"] (ai dL):=by walk_at "c"
theorem ug{f C:Addr}{fd:Lc}(F:cy K "made" "CellRule.made" dL f fd)(cl:lW K C)(na:aq K C "sign"):aQ P w K mg base bG 1 f fd ["self","pictures"] (iH C):=by
 have sc:=uR;walk_at "f"
 ·obtain⟨a,dx,l,b,n,sg,c,rfl,_⟩:=h;rfl
 ·obtain⟨a,dx,l,b,n,sg,c,rfl,ha,q⟩:=h
  refine⟨_,(ah (aE (bH (aa (bA (ak 0) rfl) ad)))),?_⟩;walk_at "wp";exact⟨C,dx,_,ha,cl,na,_,rfl,al nofun,λp hp=>q p _ hp ac (ae hp)⟩
inductive dm(spf:Sp)(vs:List V)(H:Hp)(Q:VK)(E:XK):Prop
 |mk (a b a1 a2:Addr) (_:vs=[.ref a,.ref b]) (_:H b=some (.lst [.ref a1,.ref a2])) (_:spf [.ref a1,.ref a2] H Q E)
noncomputable abbrev cV:Stmt:=eQ 29 1
theorem qN:av ["self","pictures"] ["self","pictures"] (ai cV):=by walk_at "c"
theorem qa{f zia:Addr}{fd:Lc}(F:cy K "made" "BesideRule.made" cV f fd)(yba:eR P w K mg base (bz P w) 1 "beside" ["one","other"] (iu K zia)):aQ P w K mg base (bz P w) 2 f fd ["self","pictures"] (dm (iu K zia)):=by
 have sc:=qN;walk_at "x"
 ·obtain⟨a,b,a1,a2,rfl,_⟩:=h;rfl
 ·obtain⟨a,b,a1,a2,rfl,hb,q⟩:=h
  refine⟨_,(ah (aE (aI (E:=E) yba (hr.mono nofun) rfl (aV λ_ _ _ h=>h) (aa (aF aZ (ak 1) aj (λ_ _=>rfl)) (aa (aF aZ (ak 1) aj (λ_ _=>rfl)) ad))))),?_⟩;walk_at "wp";exact⟨_,aS.of hb,_,rfl,_,aS.of hb,_,rfl,q⟩
noncomputable abbrev dw:Stmt:=eQ 30 1
theorem rj:av ["self","pictures"] ["self","pictures"] (ai dw):=by walk_at "c"
theorem qU{f zia:Addr}{fd:Lc}(F:cy K "made" "AboveRule.made" dw f fd)(yaZ:eR P w K mg base (bz P w) 1 "above" ["one","other"] (jQ K zia)):aQ P w K mg base (bz P w) 2 f fd ["self","pictures"] (dm (jQ K zia)):=by
 have sc:=rj;walk_at "x"
 ·obtain⟨a,b,a1,a2,rfl,_⟩:=h;rfl
 ·obtain⟨a,b,a1,a2,rfl,hb,q⟩:=h
  refine⟨_,(ah (aE (aI (E:=E) yaZ (hr.mono nofun) rfl (aV λ_ _ _ h=>h) (aa (aF aZ (ak 1) aj (λ_ _=>rfl)) (aa (aF aZ (ak 1) aj (λ_ _=>rfl)) ad))))),?_⟩;walk_at "wp";exact⟨_,aS.of hb,_,rfl,_,aS.of hb,_,rfl,q⟩
inductive iU(K:W.Frag)(C:Addr)(vs:List V)(H:Hp)(Q:VK)(E:XK):Prop
 |mk (a dx l b a1:Addr) (n o1:K7) (c t:Int) (_:vs=[.ref a,.ref b]) (_:H a=some (.ins C dx (EM n c l o1 t))) (_:H b=some (.lst [.ref a1])) (_:nw K [.ref a1,.int t] H Q E0)
noncomputable abbrev dX:Stmt:=eQ 31 1
theorem uN:av ["self","pictures"] ["self","pictures"] (ai dX):=by walk_at "c"
theorem ul{f C:Addr}{fd:Lc}(F:cy K "made" "TurnRule.made" dX f fd)(cl:lW K C)(na:aq K C "turning")(zAe:eR P w K mg base bG 3 "turned" ["picture","t"] (nw K)):aQ P w K mg base bG 4 f fd ["self","pictures"] (iU K C):=by
 have sc:=uN;walk_at "f"
 ·obtain⟨a,dx,l,b,a1,n,o1,c,t,rfl,_⟩:=h;rfl
 ·obtain⟨a,dx,l,b,a1,n,o1,c,t,rfl,ha,hb,q⟩:=h
  refine⟨_,(ah (aE (aI zAe (hr.mono nofun) rfl ba (aa (aF aZ (ak 1) aj (λ_ _=>rfl)) (aa (bA (ak 0) rfl) ad))))),?_⟩;walk_at "wp";exact⟨_,aS.of hb,_,rfl,C,dx,_,ha,cl,na,_,rfl,q⟩
structure eF(p:bF)(r c:Nat):Prop where
 rc:fg p r c
 r0:0<r
 r6:r<=6
 c0:0<c
 c6:c<=6
inductive AB:Nat->List bF->Prop
 |cell:AB 0 []
 |beside {p q:bF} {r c r' c':Nat}:eF p r c->eF q r' c'->AB 1 [p,q]
 |above {p q:bF} {r c r' c':Nat}:eF p r c->eF q r' c'->AB 2 [p,q]
 |turn {p:bF} {r c:Nat}:eF p r c->AB 3 [p]
noncomputable def B1(H:Hp)(l:Addr)(as:La)(ps:List bF):Prop:=H l=some (.lst (as.map V.ref))/\as.length=ps.length/\∀i (h1:i<as.length) (h2:i<ps.length),H as[i]=some (.lst (aD ps[i]))
noncomputable def gu(k:Nat)(v:RV)(ps:List bF):Option bF:=
 match k,ps with
 |0,_=>some [v.sg]
 |1,[p,q]=>if p.length=q.length/\(p.headD []).length+(q.headD []).length<=6 then some (put2 p q) else none
 |2,[p,q]=>if(p.headD []).length=(q.headD []).length/\p.length+q.length<=6 then some (p++q) else none
 |_,[p]=>some (turned p v.t.toNat)
 |_,_=>none
noncomputable def pA(K:W.Frag)(R:RC)(CF:Addr):List (Addr×Sp):=[(R.cc,iH R.cc),(R.cb,dm (iu K CF)),(R.ca,dm (jQ K CF)),(R.ct,iU K R.ct)]
theorem BA{R:RC}{CF:Addr}{H:Hp}{k a b}{v:RV}{as:La}{ps:List bF}{Q:VK}{E:XK}(r:iT R H k a v)(ok:Hx k v)(pa:B1 H b as ps)(ft:AB k ps)
  (q:∀p,gu k v ps=some p->cQ H p Q) (x:gu k v ps=none->E (.ref CF) none H) :
  ∃o∈pA K R CF,∃dx fs,H a=some (.ins o.1 dx fs)/\fs.lookup ("made":Str)=none/\o.2 [.ref a,.ref b] H Q E:=by
 obtain⟨dx,l,h1,_⟩:=r;obtain⟨hb,hl,hat⟩:=pa;cases ft with
 |cell=>exact⟨(R.cc,iH R.cc),by simp[pA],dx,_,h1,rfl,a,dx,l,b,v.n,v.sg,v.c,rfl,h1,q _ rfl⟩
 | @beside p q' r c r' c' hp hq=>
  obtain⟨a1,a2,rfl⟩:∃a1 a2,as=[a1,a2]:=by match as,hl with | [a1,a2],_=>exact⟨a1,a2,rfl⟩
  have e1:=hat 0 (by simp) (by simp);have e2:=hat 1 (by simp) (by simp);have hh1:=bp hp.rc hp.r0;have hh2:=bp hq.rc hq.r0;have hl1:=hp.rc.1;have hl2:=hq.rc.1;refine⟨(R.cb,dm (iu K CF)),by simp[pA],dx,_,h1,rfl,a,b,a1,a2,rfl,hb,a1,a2,p,q',r,c,r',c',rfl,e1,e2,hp.rc,hq.rc,hp.r0,hp.r6,hp.c6,hq.r0,hq.r6,hq.c6,λfit=>q _ ?_,λyar=>x ?_⟩
  ·show(if _ then _ else _)=_
   rw[if_pos (by rw[hl1,hl2,hh1,hh2];exact fit)]
  ·show(if _ then _ else _)=_
   rw[if_neg (by rw[hl1,hl2,hh1,hh2];exact yar)]
 | @above p q' r c r' c' hp hq=>
  obtain⟨a1,a2,rfl⟩:∃a1 a2,as=[a1,a2]:=by match as,hl with | [a1,a2],_=>exact⟨a1,a2,rfl⟩
  have e1:=hat 0 (by simp) (by simp);have e2:=hat 1 (by simp) (by simp);have hh1:=bp hp.rc hp.r0;have hh2:=bp hq.rc hq.r0;have hl1:=hp.rc.1;have hl2:=hq.rc.1;refine⟨(R.ca,dm (jQ K CF)),by simp[pA],dx,_,h1,rfl,a,b,a1,a2,rfl,hb,a1,a2,p,q',r,c,r',c',rfl,e1,e2,hp.rc,hq.rc,hp.r0,hp.r6,hp.c6,hq.r0,hq.r6,hq.c6,λfit=>q _ ?_,λyar=>x ?_⟩
  ·show(if _ then _ else _)=_
   rw[if_pos (by rw[hl1,hl2,hh1,hh2];exact fit)]
  ·show(if _ then _ else _)=_
   rw[if_neg (by rw[hl1,hl2,hh1,hh2];exact yar)]
 | @turn p r c hp=>
  obtain⟨a1,rfl⟩:∃a1,as=[a1]:=by match as,hl with | [a1],_=>exact⟨a1,rfl⟩
  have e1:=hat 0 (by simp) (by simp);have t0:0<=v.t:=ok.2.1;have t7:v.t<=7:=ok.2.2;refine⟨(R.ct,iU K R.ct),by simp[pA],dx,_,h1,rfl,a,dx,l,b,a1,v.n,v.o1,v.c,v.t,rfl,h1,hb,a1,p,r,c,v.t.toNat,by rw[K0 t0],aS.of e1,hp.rc,hp.r0,hp.c0,by have:=hp.r6;omega,by have:=hp.c6;omega,⋯,q _ rfl⟩
noncomputable abbrev qi:Stmt:=iZ 58
inductive nI(K:W.Frag)(vs:List V)(H:Hp)(Q:VK)(_E:XK):Prop
 |mk (a:Addr) (ns:List Int) (k:Nat) (_:vs=[.ref a,.int (k:Int)]) (_:aS K H a (ns.map V.int)) (_:k<=1000) (_:∀c:Int,Q (.int c) H)
theorem Av:av ["_law_script","_law_k","_law_cell_here","_law_mixed"] ["_law_script","_law_k"] (ai qi):=by walk_at "c"
theorem zB{f:Addr}{fd:Lc}(F:cy K "_law_cell" "_law_cell" qi f fd)(nb:NB mg):aQ P w K mg base bG 1 f fd ["_law_script","_law_k"] (nI K):=by
 have sc:=Av;walk_at "f"
 ·obtain⟨a,ns,k,rfl,_⟩:=h;rfl
 ·obtain⟨a,ns,k,rfl,hS,hk,q⟩:=h
  refine⟨_,(af (aB (i:=2) sc.nd rfl (Or.inl rfl) aj)
   (af (bE (aH pw (pv 1) (aA a_ rfl nb.len aW (aa (pv 0) ad)) (aO _))
   (ah (aB (i:=2) sc.nd rfl (Or.inl rfl) (aF yv (pv 0) (pv 1) (λ_ _=>rfl))))
   aM)
   (af (aB (i:=3) sc.nd rfl (Or.inl rfl) (aw bI (aw fk (aw bN (aw bN (aw bI (pv 2) aj) (aw fk aj (pv 1))) aj) aj) aj))
   (ah (aE (aw bN (aw fk (aw ck (pv 2) aj) aj) (aw bI (aw bN (aw fk (pv 3) aj) (pv 1)) aj))))))),?_⟩
  walk_at "wp";refine⟨_,hS,?_⟩;rw[J_]
  split
  ·rename_i hlt
   have hlt':k<ns.length:=by omega
   refine⟨_,hS,V.int ns[k],bx (by rw[Ka,J7 hlt'];rfl),?_⟩;walk_at "wp";exact q _
  ·exact q _
noncomputable def Fy(d s m:Nat):List Nat:=(List.range (1+m)).map λi=>97+(d+(1+2*s)*i)%26
theorem D6:∀d,d<26->∀s,s<6->∀m,m<4->eJ (Fy d s m)=true:=by decide +kernel
theorem Df:∀n,n<26->(Str.ofString "abcdefghijklmnopqrstuvwxyz").cps.toList[n]?=some (97+n):=by decide +kernel
theorem lD{r:K7}(h:eJ r=true):1<=r.length/\r.length<=4:=by
 unfold eJ at h;simp only[Bool.and_eq_true,decide_eq_true_eq]at h;exact⟨h.1.1.1,h.1.1.2⟩
noncomputable abbrev mO:Stmt:=iZ 61
inductive qF(vs:List V)(H:Hp)(Q:VK)(_E:XK):Prop
 |mk (c:Int) (_:vs=[.int c,.int 4]) (_:∀(r:K7) (H':Hp),eJ r=true->az H H'->Q (.str (tx r)) H')
theorem wO:av ["_law_cell_here","_law_most","_law_letters","_law_step_here"] ["_law_cell_here","_law_most"] (ai mO):=by walk_at "c"
theorem xS{f:Addr}{fd:Lc}(F:cy K "_law_signs" "_law_signs" mO f fd)(nb:NB mg):aQ P w K mg base bG 1 f fd ["_law_cell_here","_law_most"] qF:=by
 have sc:=wO;walk_at "f"
 ·obtain⟨c,rfl,_⟩:=h;rfl
 ·obtain⟨c,rfl,q⟩:=h
  refine⟨_,(af (aB (i:=2) sc.nd rfl (Or.inr rfl) jX)
   (af (aB (i:=3) sc.nd rfl (Or.inr rfl) (aw (bd.m0 bN) aj (aw (bd.m1 fk) aj (aw (bd.m1 bI) (aw (bd.m1 ck) (ak 0) aj) aj))))
   (ah (aE (ic PySem.F.plainAttrs_str PySem.F.slot_str_join PySem.F.type_str_join oP jX (aa (cH ["_law_k"] [2,0,3] rfl (bB.of (by kernel_rfl)) (by kernel_rfl) (dR rfl nb.range (aa (aw (bd.m0 bN) aj (aw (bd.m1 bI) (aw (bd.m1 bI) (ak 0) aj) (ak 1))) ad))
    (λ_ _ _ _=>(ay (i:=0) (by show(["_law_k","_law_letters","_law_cell_here","_law_step_here"]:List Str).Nodup;decide +kernel) rfl (Or.inl rfl))) (λ_ _ _ _=>bU) (λ_ _ _ _=>(aF nM (ak 1) (aw (bd.m1 bI) (aw (bd.m0 bN) (aw (bd.m1 ck) (ak 2) aj) (aw (bd.m1 fk) (ak 3) (ak 0))) aj) (λ_ _=>rfl)))) ad)))))),?_⟩
  obtain⟨m,hm⟩:∃m:Nat,c%4%4=(m:Int):=⟨_,(K0 (KY _ ⋯)).symm⟩;obtain⟨s6,hs6⟩:∃m:Nat,c/104%6=(m:Int):=⟨_,(K0 (KY _ ⋯)).symm⟩;obtain⟨d,hd⟩:∃m:Nat,c/4%26=(m:Int):=⟨_,(K0 (KY _ ⋯)).symm⟩;have m2:m<4:=by omega
  have s2:s6<6:=by omega
  have d2:d<26:=by omega
  walk_at "n";refine h1 _ _ ?_;walk_at "nc";rw[hs6];refine h1 _ _ ?_;clear h1;walk_at "wp";rw[hm];have en:(1+(m:Int)).toNat=1+m:=by omega
  rw[en];refine⟨rfl,⋯,⋯,?_⟩;have chr:∀i:Nat,(c/4+(1+2*(s6:Int))*(i:Int))%26=(((d+(1+2*s6)*i)%26:Nat):Int):=λi=>by
   rw[Int.add_emod,hd]
   push_cast
   rw[Int.add_emod (d:Int) ((1+2*(s6:Int))*(i:Int)),Int.emod_eq_of_lt (a:=(d:Int)) ⋯ ⋯]
  refine n_ (n:=1+m) (f:=λi=>some (V.str ⟨#[97+(d+(1+2*s6)*i)%26]⟩)) (λσ=>∃x,σ=[x,some (.str "abcdefghijklmnopqrstuvwxyz"),some (.int c),some (.int (1+2*(s6:Int)))]) ⟨_,rfl⟩ ⋯ ?_ ?_
  ·rintro i hi σ H' N1 N0 ⟨y,rfl⟩ sm k1 k0
   walk_at "wp";refine⟨.inl ⟨⋯,⋯⟩,nofun,97+(d+(1+2*s6)*i)%26,?_,k1 _ _ _ rfl sm ⟨_,rfl⟩⟩;rw[chr i];exact bx (Df _ (Nat.mod_lt _ ⋯))
  ·intro H' sm l hl
   rw[j9];have e0:(List.range (1+m)).map (λi=>V.str ⟨#[97+(d+(1+2*s6)*i)%26]⟩)=((Fy d s6 m).map λc=>(⟨#[c]⟩:Str)).map V.str:=by
    unfold Fy;rw[Kl,Kl];rfl
   rw[e0];have hg:=D6 d d2 s6 s2 m m2;have hgl:=lD hg;refine⟨_,.inl (aS.of ac),?_,?_⟩
   ·rw[Kl]
    have e1:((λy:Str=>y.length)∘λc=>(⟨#[c]⟩:Str))=λ_=>1:=by funext c;rfl
    have e0:(Str.ofString "").length=0:=rfl;rw[e1,List.map_const',List.sum_replicate_nat,J_,e0];omega
   ·rw[fY]
    exact q _ _ hg (sm.trans (ae hl))
theorem wB(r s:K7):tx r++tx s=tx (r++s):=by
 show(⟨r.toArray++s.toArray⟩:Str)=⟨(r++s).toArray⟩;simp
theorem Cz{row:K7}{n:Nat}(h:n<=row.length):Txt.slice (tx row) none (some (n:Int))=tx (row.take n):=by
 rw[rM,HT.sIx_nat,K1 h];show tx ((row.drop 0).take (n-0))=_;rw[K3,Nat.sub_zero]
theorem xE{row:K7}{n:Nat}(h:n<=row.length):Txt.slice (tx row) (some (n:Int)) none=tx (row.drop n):=by
 rw[rM,HT.sIx_nat,K1 h];show tx ((row.drop n).take (row.length-n))=_;rw[List.take_of_length_le (by rw[KN];omega)]
theorem BL:∀n,n<26->(Str.ofString "ABCDEFGHIJKLMNOPQRSTUVWXYZ").cps.toList[n]?=some (65+n):=by decide +kernel
noncomputable def EC(c:Nat):Bool:=Gj FT c
theorem CK:∀n,n<26->EC (65+n)=true:=by decide +kernel
theorem E9(x:Int):∃n:Nat,n<26/\x%26=(n:Int):=⟨(x%26).toNat,⋯,⋯⟩
theorem DT{r:K7}(h:∀x∈r,EC x=true)(h1:1<=r.length)(h4:r.length<=4):dz r=true:=by
 have hall:r.all (Gj FT)=true:=KR.mpr h;unfold dz il;rw[hall];simp;omega
noncomputable abbrev m9:Stmt:=iZ 62
inductive qo(vs:List V)(H:Hp)(Q:VK)(_E:XK):Prop
 |mk (c:Int) (_:vs=[.int c]) (_:∀(l:Addr) (p:bF) (H':Hp),H l=none->H' l=some (.lst (aD p))->p.length=4->(∀r∈p,dz r=true)->az H H'->Q (.ref l) H')
theorem xm:av ["_law_cell_here","_law_letters","_law_size","_law_at","_law_step_here","_law_base","_law_names_here","_law_k","_law_letter"] ["_law_cell_here"] (ai m9):=by walk_at "c"
theorem x9{f:Addr}{fd:Lc}(F:cy K "_law_names" "_law_names" m9 f fd)(nb:NB mg):aQ P w K mg base bG 1 f fd ["_law_cell_here"] qo:=by
 have sc:=xm;walk_at "f"
 ·obtain⟨c,rfl,_⟩:=h;rfl
 ·obtain⟨c,rfl,q⟩:=h
  refine⟨_,(af (aB (i:=1) sc.nd rfl (Or.inr rfl) jX)
   (af (aB (i:=2) sc.nd rfl (Or.inl rfl) (aw (bd.m0 bN) aj (aw (bd.m1 bI) (ak 0) aj)))
   (af (aB (i:=3) sc.nd rfl (Or.inl rfl) (aw (bd.m1 bI) (aw (bd.m1 ck) (ak 0) aj) (ak 2)))
   (af (aB (i:=4) sc.nd rfl (Or.inl rfl) (aw (bd.m0 bN) aj (aw (bd.m1 fk) aj (aw (bd.m1 bI) (aw (bd.m1 ck) (ak 0) aj) aj))))
   (af (aB (i:=5) sc.nd rfl (Or.inl rfl) (ic PySem.F.plainAttrs_str PySem.F.slot_str_join PySem.F.type_str_join oP jX (aa (cH ["_law_k"] [1,0] rfl (bB.of (by kernel_rfl)) (by kernel_rfl) (dR rfl nb.range (aa (ak 2) ad))
    (λ_ _ _ _=>(ay (i:=0) (by show(["_law_k","_law_letters","_law_cell_here"]:List Str).Nodup;decide +kernel) rfl (Or.inl rfl))) (λ_ _ _ _=>bU) (λ_ _ _ _=>(aF nM (ak 1) (aw (bd.m1 bI) (aw (bd.m0 bN) (aw (bd.m1 ck) (ak 2) aj) (aw (bd.m1 fk) aj (ak 0))) aj) (λ_ _=>rfl)))) ad)))
   (af (aB (i:=6) sc.nd rfl (Or.inl rfl) (bH ad))
   (af (bw PassesOwn.never rfl (dR rfl nb.range (bK ad)) (ay (i:=7) sc.nd rfl (Or.inl rfl))
   (af (aB (i:=8) sc.nd rfl (Or.inl rfl) (aF nM (ak 1) (aw (bd.m1 bI) (aw (bd.m0 bN) (aw (bd.m1 ck) (ak 0) aj) (aw (bd.m1 fk) (ak 4) (ak 7))) aj) (λ_ _=>rfl)))
   (ah (bv (ic PySem.F.plainAttrs_list PySem.F.slot_list_append PySem.F.type_list_append dN (ak 6) (aa (aw iM (aw iM (eG B0 (ak 5) gE (fu (ak 3))) (ak 8)) (eG B0 (ak 5) (fu (aw (bd.m0 bN) (ak 3) aj)) gE)) ad))))))
   (ah (aE (ak 6)))))))))),?_⟩
  obtain⟨m,hm⟩:∃m:Nat,c%4=(m:Int):=⟨_,(K0 (KY _ ⋯)).symm⟩;have m2:m<4:=by omega
  walk_at "n";refine h1 _ _ ?_;walk_at "nc";refine h1 _ _ ?_;clear h1;rw[hm];walk_at "n";refine⟨⋯,h1 _ _ ?_⟩;clear h1;obtain⟨at_,hat⟩:∃k:Nat,c/4%(1+(m:Int))=(k:Int):=⟨_,(K0 (KY _ ⋯)).symm⟩;have hat2:at_<1+m:=by have:=KZ (c/4) (b:=1+(m:Int)) ⋯;omega
  rw[hat];walk_at "n";refine h1 _ _ ?_;clear h1;generalize 1+2*(c/16%6)=st;walk_at "n";have en:(1+(m:Int)).toNat=1+m:=by omega
  rw[en];refine⟨rfl,⋯,⋯,?_⟩
  let fc:Nat->Nat:=λi=>65+((c/96+5*(i:Int))%26).toNat
  refine n_ (n:=1+m) (f:=λi=>some (V.str ⟨#[fc i]⟩)) (λσ=>∃x,σ=[x,some (.str "ABCDEFGHIJKLMNOPQRSTUVWXYZ"),some (.int c)]) ⟨_,rfl⟩ ⋯ ?_ ?_
  ·rintro i hi σ H' N1 N0 ⟨y,rfl⟩ sm k1 k0
   walk_at "wp";obtain⟨n,h1,h2⟩:=E9 (c/96+5*(i:Int));refine⟨nofun,fc i,?_,k1 _ _ _ rfl sm ⟨_,rfl⟩⟩;show jl _ _=some (65+((c/96+5*(i:Int))%26).toNat);rw[h2];exact bx (BL n h1)
  ·intro H' sm l hl
   rw[j9];have e0:(List.range (1+m)).map (λi=>V.str ⟨#[fc i]⟩)=(((List.range (1+m)).map fc).map λc=>(⟨#[c]⟩:Str)).map V.str:=by rw[Kl,Kl];rfl
   rw[e0];have hcs:∀x∈(List.range (1+m)).map fc,EC x=true:=λx hx=>by
    obtain⟨i,_,rfl⟩:=KQ.mp hx;obtain⟨n,h1,h2⟩:=E9 (c/96+5*(i:Int));show EC (65+((c/96+5*(i:Int))%26).toNat)=true;rw[h2];exact CK n h1
   have hcl:((List.range (1+m)).map fc).length=1+m:=by simp
   generalize(List.range (1+m)).map fc=cs at hcs hcl ⊢;refine⟨_,.inl (aS.of ac),?_,?_⟩
   ·rw[Kl]
    have e1:((λy:Str=>y.length)∘λc=>(⟨#[c]⟩:Str))=λ_=>1:=by funext c;rfl
    have e0:(Str.ofString "").length=0:=rfl;rw[e1,List.map_const',List.sum_replicate_nat,J_,e0];omega
   rw[fY];refine h1 _ _ ?_;clear h1;have s1:=sm.trans (ae (o:=.lst ((cs.map λc=>(⟨#[c]⟩:Str)).map V.str)) hl);generalize ax H' l (.lst ((cs.map λc=>(⟨#[c]⟩:Str)).map V.str))=H1 at s1 ⊢;walk_at "n";refine⟨al nofun,λln hln=>h1 _ _ ?_⟩;clear h1;have frn:=s1.free hln;have s2:=s1.trans (ae (o:=.lst []) hln);have e2:ax H1 ln (.lst []) ln=some (.lst []):=ac;generalize ax H1 ln (.lst [])=H2 at s2 e2 ⊢;walk_at "n";refine⟨nofun,?_⟩;refine eW (n:=4) (λi σ H'=>az H H'/\(∃p:bF,H' ln=some (.lst (aD p))/\p.length=i/\∀r∈p,dz r=true)/\∃x y,σ=[some (V.int c),some (V.str (Str.ofString "ABCDEFGHIJKLMNOPQRSTUVWXYZ")),some (V.int (1+(m:Int))),some (V.int (at_:Int)),some (V.int st),some (V.str (tx cs)),some (V.ref ln),x,y]) ⟨s2,⟨[],e2,rfl,λr hr=>nomatch hr⟩,_,_,rfl⟩ ?_ ?_
   ·rintro i σ H' hi ⟨sm',⟨p,hp,pl,pn⟩,x,y,rfl⟩
    walk_at "wp";obtain⟨n,hn1,hn2⟩:=E9 (c/2496+st*(i:Int));have nm:dz (cs.take at_++[65+n]++cs.drop (at_+1))=true:=by
     refine DT (λx hx=>?_) (by simp;omega) (by simp;omega);rcases Kk.mp hx with h | h
     ·rcases Kk.mp h with h | h
      ·exact hcs x (List.mem_of_mem_take h)
      ·rw[J'.mp h];exact CK n hn1
     ·exact hcs x (List.mem_of_mem_drop h)
    have at1:((at_:Int)+1)=((at_+1:Nat):Int):=by push_cast;rfl
    rw[Cz ⋯,at1,xE ⋯];have lt1:(cs.take at_).length<=4:=by rw[KM];omega
    have lt2:(cs.drop (at_+1)).length<=4:=by rw[KN];omega
    have ez:tx (cs.take at_)++(⟨#[65+n]⟩:Str)++tx (cs.drop (at_+1))=tx (cs.take at_++[65+n]++cs.drop (at_+1)):=by rw[show(⟨#[65+n]⟩:Str)=tx [65+n] from rfl,wB,wB]
    refine⟨.inr ⟨⋯,⋯⟩,nofun,65+n,by rw[hn2];exact bx (BL n hn1),.inl ⟨rfl,_,aS.of hp⟩,by rw[au];exact al ⋯,?_,by rw[au];exact al ⋯,?_,_,hp,by rw[ar,pl];exact bf ⋯,?_⟩
    ·rw[au];exact al (by show _+1<=_;omega)
    ·rw[show(⟨#[65+n]⟩:Str)=tx [65+n] from rfl,wB,au,au];exact al (by simp;omega)
    ·rw[ez]
     refine⟨gg sm' frn,p++[cs.take at_++[65+n]++cs.drop (at_+1)],?_,by rw[Ku,pl];rfl,λr hr=>?_⟩
     ·rw[ac];unfold aD;rw[Kj];rfl
     ·rcases Kk.mp hr with h | h
      ·exact pn r h
      ·rw[J'.mp h];exact nm
   ·rintro σ H' ⟨sm',⟨p,hp,pl,pn⟩,x,y,rfl⟩
    refine h1 _ _ ?_;walk_at "wp";exact q ln p H' frn hp pl pn sm'
noncomputable def i6(r:Nat×RV):List V:=match r.1 with
 |0=>[.str (tx r.2.n),.int r.2.c,.int 0,.str (tx r.2.sg),.str ""]
 |1=>[.str (tx r.2.n),.int r.2.c,.int 1,.str (tx r.2.o1),.str (tx r.2.o2)]
 |2=>[.str (tx r.2.n),.int r.2.c,.int 2,.str (tx r.2.o1),.str (tx r.2.o2)]
 |_=>[.str (tx r.2.n),.int r.2.c,.int 3,.str (tx r.2.o1),.int r.2.t]
noncomputable def h_(H:Hp)(l:Addr)(ts:La)(rs:Yaa):Prop:=H l=some (.lst (ts.map V.ref))/\ts.length=rs.length/\∀(i:Nat) t r,ts[i]?=some t->rs[i]?=some r->H t=some (.tup (i6 r))
theorem h_.up{H H':Hp}{l:Addr}{ts:La}{rs:Yaa}(h:h_ H l ts rs)(s:az H H'):h_ H' l ts rs:=⟨s _ _ h.1,h.2.1,λi t r e1 e2=>s _ _ (h.2.2 i t r e1 e2)⟩
theorem kj{k:Nat}(h:k<4):k=0\/k=1\/k=2\/k=3:=by omega
structure dD(r:Nat×RV):Prop where
 k4:r.1<4
 good:r.2.good
 small:r.2.small
noncomputable abbrev o6:Stmt:=iZ 63
inductive nC(R:RC)(vs:List V)(H:Hp)(Q:VK)(_E:XK):Prop
 |mk (t:Addr) (r:Nat×RV) (_:vs=[.ref t]) (_:H t=some (.tup (i6 r))) (_:dD r) (_:∀b H',iT R H' r.1 b r.2->az H H'->Q (.ref b) H')
theorem Ao:av ["_law_rule_here"] ["_law_rule_here"] (ai o6):=by walk_at "c"
theorem AC{R:RC}{f CF:Addr}{fd:Lc}(F:cy K "_law_rule" "_law_rule" o6 f fd)(nb:NB mg)(rk:oI K R)
  (zMb:kT P w K mg base (bz P w) 4 "CellRule" R.cc ["self","name","cost","sign"] (iJ K CF)) (zqb:kT P w K mg base (bz P w) 4 "BesideRule" R.cb ["self","name","cost","one","other"] (dv K CF))
  (zwb:kT P w K mg base (bz P w) 4 "AboveRule" R.ca ["self","name","cost","one","other"] (dv K CF)) (zNb:kT P w K mg base (bz P w) 4 "TurnRule" R.ct ["self","name","cost","part","turning"] (iB K CF)):aQ P w K mg base bG 6 f fd ["_law_rule_here"] (nC R):=by
 have sc:=Ao;walk_at "f"
 ·obtain⟨t,r,rfl,_⟩:=h;rfl
 ·obtain⟨t,⟨k,v⟩,rfl,ht,⟨hk,g,sm⟩,good⟩:=h
  refine⟨_,(af (bE (aH i' (aF aG (ak 0) aj (λ_ _=>rfl)) aj (aO _))
   (ah (aE (fQ (CX:=bz P w) zMb (hr.mono nofun) rfl bc (aa (aF aG (ak 0) aj (λ_ _=>rfl)) (aa (aF aG (ak 0) aj (λ_ _=>rfl)) (aa (aF aG (ak 0) aj (λ_ _=>rfl)) ad))))))
   aM)
   (af (bE (aH i' (aF aG (ak 0) aj (λ_ _=>rfl)) aj (aO _))
   (ah (aE (fQ (CX:=bz P w) zqb (hr.mono nofun) rfl bc (aa (aF aG (ak 0) aj (λ_ _=>rfl)) (aa (aF aG (ak 0) aj (λ_ _=>rfl)) (aa (aF aG (ak 0) aj (λ_ _=>rfl)) (aa (aF aG (ak 0) aj (λ_ _=>rfl)) ad)))))))
   aM)
   (af (bE (aH i' (aF aG (ak 0) aj (λ_ _=>rfl)) aj (aO _))
   (ah (aE (fQ (CX:=bz P w) zwb (hr.mono nofun) rfl bc (aa (aF aG (ak 0) aj (λ_ _=>rfl)) (aa (aF aG (ak 0) aj (λ_ _=>rfl)) (aa (aF aG (ak 0) aj (λ_ _=>rfl)) (aa (aF aG (ak 0) aj (λ_ _=>rfl)) ad)))))))
   aM)
   (ah (aE (fQ (CX:=bz P w) zNb (hr.mono nofun) rfl bc (aa (aF aG (ak 0) aj (λ_ _=>rfl)) (aa (aF aG (ak 0) aj (λ_ _=>rfl)) (aa (aF aG (ak 0) aj (λ_ _=>rfl)) (aa (aF aG (ak 0) aj (λ_ _=>rfl)) ad)))))))))),?_⟩
  have sq:=bh.of (K:=K) ht;have g:v.good:=g;have sm:v.small:=g.small;have bn:v.n.length<=100000:=by have:=sm.n;omega
  have b1:v.o1.length<=100000:=by have:=sm.o1;omega
  have b2:v.o2.length<=100000:=by have:=sm.o2;omega
  have bs:v.sg.length<=100000:=by have:=sm.sg;omega
  walk_at "wp";rcases kj hk with rfl | rfl | rfl | rfl
  ·change bh K H t [.str (tx v.n),.int v.c,.int 0,.str (tx v.sg),.str ""]at sq
   refine⟨_,sq,_,rfl,rfl,?_⟩;rw[if_pos rfl];refine⟨_,sq,_,rfl,_,sq,_,rfl,_,sq,_,rfl,λx dx hx hd hne=>?_⟩;exact⟨x,R.cc,dx,v.n,v.sg,v.c,rfl,ac,rk.i0.cl,rk.a0,bn,bs,λok pl H' sx hpl hl' ha=>⟨rfl,good x H' ⟨dx,pl,ha,hl'⟩ (j7 hx hd sx)⟩,λnok=>absurd (g.ok 0) nok⟩
  ·change bh K H t [.str (tx v.n),.int v.c,.int 1,.str (tx v.o1),.str (tx v.o2)]at sq
   refine⟨_,sq,_,rfl,rfl,?_⟩;rw[if_neg nofun];refine⟨_,sq,_,rfl,rfl,?_⟩;rw[if_pos rfl];refine⟨_,sq,_,rfl,_,sq,_,rfl,_,sq,_,rfl,_,sq,_,rfl,λx dx hx hd hne=>?_⟩;exact⟨x,R.cb,dx,v.n,v.o1,v.o2,v.c,rfl,ac,rk.i1.cl,rk.a1,bn,b1,b2,λok pl H' sx hpl hl' ha=>⟨rfl,good x H' ⟨dx,pl,ha,hl'⟩ (j7 hx hd sx)⟩,λnok=>absurd (g.ok 1) nok⟩
  ·change bh K H t [.str (tx v.n),.int v.c,.int 2,.str (tx v.o1),.str (tx v.o2)]at sq
   refine⟨_,sq,_,rfl,rfl,?_⟩;rw[if_neg nofun];refine⟨_,sq,_,rfl,rfl,?_⟩;rw[if_neg nofun];refine⟨_,sq,_,rfl,rfl,?_⟩;rw[if_pos rfl];refine⟨_,sq,_,rfl,_,sq,_,rfl,_,sq,_,rfl,_,sq,_,rfl,λx dx hx hd hne=>?_⟩;exact⟨x,R.ca,dx,v.n,v.o1,v.o2,v.c,rfl,ac,rk.i2.cl,rk.a2,bn,b1,b2,λok pl H' sx hpl hl' ha=>⟨rfl,good x H' ⟨dx,pl,ha,hl'⟩ (j7 hx hd sx)⟩,λnok=>absurd (g.ok 2) nok⟩
  ·change bh K H t [.str (tx v.n),.int v.c,.int 3,.str (tx v.o1),.int v.t]at sq
   refine⟨_,sq,_,rfl,rfl,?_⟩;rw[if_neg nofun];refine⟨_,sq,_,rfl,rfl,?_⟩;rw[if_neg nofun];refine⟨_,sq,_,rfl,rfl,?_⟩;rw[if_neg nofun];refine⟨_,sq,_,rfl,_,sq,_,rfl,_,sq,_,rfl,_,sq,_,rfl,λx dx hx hd hne=>?_⟩;exact⟨x,R.ct,dx,v.n,v.o1,v.c,v.t,rfl,ac,rk.i3.cl,rk.a3,bn,b1,λok pl H' sx hpl hl' ha=>⟨rfl,good x H' ⟨dx,pl,ha,hl'⟩ (j7 hx hd sx)⟩,λnok=>absurd (g.ok 3) nok⟩
structure qq(p:bF)(sg:K7)(r:Nat×RV):Prop where
 good:dD r
 n:r.2.n∈p
 o1:r.2.o1∈p
 o2:r.2.o2∈p
 sg:∃c∈sg,r.2.sg=[c]
theorem h_.app{H:Hp}{l t:Addr}{ts:La}{rs:Yaa}{r:Nat×RV}(h:h_ H l ts rs)(ht:H t=some (.tup (i6 r))):h_ (ax H l (.lst (ts.map V.ref++[V.ref t]))) l (ts++[t]) (rs++[r]):=by
 obtain⟨h1,h2,h3⟩:=h;refine⟨by rw[ac,Kj];rfl,by rw[Ku,Ku,h2];rfl,λi t' r' e1 e2=>?_⟩;have hold:∀t' r',H t'=some (.tup (i6 r'))->ax H l (.lst (ts.map V.ref++[V.ref t])) t'=some (.tup (i6 r')):=λt' r' e=>by
  rw[ao (λz=>by rw[z,h1]at e;cases e)];exact e
 by_cases hi:i<ts.length
 ·rw[Kt hi]at e1
  rw[Kt ⋯]at e2;exact hold _ _ (h3 i t' r' e1 e2)
 ·rw[Ks ⋯]at e1
  rw[Ks ⋯]at e2;have hi2:i=ts.length:=by
   have:=(J8.mp e1).1;simp at this;omega
  subst hi2;rw[Nat.sub_self]at e1;rw[h2,Nat.sub_self]at e2;cases e1;cases e2
  exact hold _ _ ht
theorem wd{r:K7}(h:eJ r=true):il r pX=true:=by
 unfold eJ at h;simp only[Bool.and_eq_true,decide_eq_true_eq]at h;exact h.1.2
theorem DN{r:K7}{c:Nat}(h:eJ r=true)(hc:c∈r):jv [c]=true:=by
 have:=wd h;unfold il at this;rw[KR]at this;unfold jv il;rw[List.all_cons,this c hc]
 rfl
noncomputable def c_(ks:Le)(z:Str):List Str:=if z∈ks then ks else ks++[z]
theorem rD(m:List (Str×List Nat))(z:Str):(bW m z).map (·.1)=c_ (m.map (·.1)) z:=by
 unfold bW c_
 split
 ·rfl
 ·rw[Kj];rfl
theorem pJ:∀(zs:Le) (m:List (Str×List Nat)),(zs.foldl bW m).map (·.1)=zs.foldl c_ (m.map (·.1))
 | [],_=>rfl
 |z::zs,m=>by rw[List.foldl_cons,List.foldl_cons,pJ zs,rD]
theorem zx(m:List (Str×List Nat))(i:Nat)(r:Nat×RV):(fo m i r).map (·.1)=(tx r.2.n::(bi r.1 r.2).map tx).foldl c_ (m.map (·.1)):=by
 unfold fo;rw[pJ,iY,rD,List.foldl_cons]
theorem xF(ks:Le)(z:Str):(c_ ks z).length<=ks.length+1:=by
 unfold c_;split
 ·omega
 ·simp
noncomputable def bM(z:Str)(rs:Yaa):List Nat:=rs.zipIdx.filterMap λx=>if tx x.1.2.n=z then some x.2 else none
theorem qh(z:Str)(rs:Yaa)(r:Nat×RV):bM z (rs++[r])=bM z rs++if tx r.2.n=z then[rs.length] else[]:=by
 unfold bM;rw[List.zipIdx_append,List.filterMap_append]
 congr 1
 simp
 split<;>rename_i h<;>simp[h]
theorem wL{z:Str}:∀{rs:Yaa},(∀r∈rs,tx r.2.n≠z)->bM z rs=[]:=by
 intro rs h;unfold bM;rw[List.filterMap_eq_nil_iff];intro x hx;rw[if_neg (h x.1 (List.fst_mem_of_mem_zipIdx hx))]
structure NI(rs:Yaa)(m:List (Str×List Nat)):Prop where
 nd:(m.map (·.1)).Nodup
 ix:∀q∈m,q.2=bM q.1 rs
 all:∀r∈rs,tx r.2.n∈m.map (·.1)
theorem p_{m:List (Str×List Nat)}{z y:Str}:y∈(bW m z).map (·.1)↔y∈m.map (·.1)\/y=z:=by
 unfold bW
 split
 ·rename_i h
  exact⟨λq=>.inl q,λq=>q.elim id λe=>e▸h⟩
 ·rw[Kj,Kk];simp
theorem NI.name{rs:Yaa}{m:List (Str×List Nat)}(h:NI rs m)(z:Str):NI rs (bW m z):=by
 refine⟨mH h.nd,λq hq=>?_,λr hr=>p_.mpr (.inl (h.all r hr))⟩;unfold bW at hq
 split at hq
 ·exact h.ix q hq
 ·rename_i hz
  rcases Kk.mp hq with q1 | q1
  ·exact h.ix q q1
  ·rw[J'.mp q1]
   exact(wL (z:=z) λr hr e=>hz (by rw[<- e];exact h.all r hr)).symm
theorem NI.names{rs:Yaa}:∀(zs:Le) {m:List (Str×List Nat)},NI rs m->NI rs (zs.foldl bW m)
 | [],_,h=>h
 |z::zs,m,h=>NI.names zs (h.name z)
theorem NI.put{rs:Yaa}{m:List (Str×List Nat)}{r:Nat×RV}(h:NI rs m)(hn:tx r.2.n∈m.map (·.1)):NI (rs++[r]) (i7 m (tx r.2.n) rs.length):=by
 refine⟨by rw[iY];exact h.nd,λq hq=>?_,λr' hr'=>?_⟩
 ·unfold i7 at hq
  obtain⟨p,hp,rfl⟩:=KQ.mp hq;rw[qh]
  by_cases e:p.1=tx r.2.n
  ·rw[if_pos e]
   show p.2++[rs.length]=bM p.1 rs++_;rw[if_pos e.symm,h.ix p hp]
  ·rw[if_neg e,if_neg (λz=>e z.symm),KH]
   exact h.ix p hp
 ·rw[iY]
  rcases Kk.mp hr' with q | q
  ·exact h.all r' q
  ·rw[J'.mp q];exact hn
theorem nu(z:Str):∀(n:Nat) (rs:Yaa),rs.length=n->NI rs (aY z rs)
 |0,rs,h=>by
  rw[KP.mp h];exact⟨by simp[aY,gz],λq hq=>by rw[show q=(z,[]) by simpa[aY,gz]using hq];rfl,λr hr=>nomatch hr⟩
 |n+1,rs,h=>by
  obtain⟨rs',r,rfl⟩:∃rs' r,rs=rs'++[r]:=⟨rs.dropLast,rs.getLast (by intro e;rw[e]at h;cases h),(List.dropLast_concat_getLast _).symm⟩;have hl:rs'.length=n:=by rw[Ku,List.length_singleton]at h;omega
  have ih:=nu z n rs' hl;unfold aY at ih ⊢;rw[gC,Nat.zero_add];unfold fo;exact((ih.name (tx r.2.n)).put (p_.mpr (.inr rfl))).names _
theorem si:∀{m:List (Str×List Nat)} {q:Str×List Nat},(m.map (·.1)).Nodup->q∈m->m.lookup q.1=some q.2
 |p::m,q,hnd,hq=>by
  rw[KC,List.nodup_cons]at hnd;rw[List.lookup_cons];rcases Km.mp hq with e | e
  ·rw[e];simp
  ·have hne:q.1≠p.1:=λz=>hnd.1 (z▸List.mem_map_of_mem e)
   have:(q.1==p.1)=false:=beq_eq_false_iff_ne.mpr hne;rw[this];exact si hnd.2 e
theorem yI{z:Str}{rs:Yaa}{q:Str×List Nat}(h:q∈aY z rs):(aY z rs).lookup q.1=some (bM q.1 rs)/\q.2=bM q.1 rs:=by
 have N:=nu z _ rs rfl;have e:=N.ix q h;exact⟨by rw[si N.nd h,e],e⟩
theorem rC(z:Str)(rs:Yaa):(bM z rs).length<=rs.length:=by
 unfold bM;exact KD (List.length_filterMap_le _ _) (by rw[List.length_zipIdx];exact Kv _)
theorem wZ{R:RC}{H:Hp}{l:Addr}{ts:La}{rs:Yaa}{Q:List V->Hp->Prop}(hR:h_ H l ts rs)(hg:∀r∈rs,dD r)(hn:rs.length<=100)(q:∀(as:La) H',az H H'->cF R H' as rs->Q (as.map V.ref) H') :
  i9 (DF K l) (ld 0) yW (nV (nC R) [] E0 (pi (Ba 0) tT)) [none] H Q:=by
 obtain⟨hl,htl,hat⟩:=hR;refine nj (xs:=ts.map V.ref) (λi acc σ H'=>az H H'/\(∃as:List Addr,acc=as.map V.ref/\cF R H' as (rs.take i))/\i<=ts.length/\∃x,σ=[x]) ⟨az.refl _,⟨[],rfl,rfl,λi a r e=>by simp at e⟩,Kw _,_,rfl⟩ ?_ ?_ ?_ ?_ ?_
 ·rintro i acc σ H' ⟨_,⟨as,rfl,h,_⟩,hi,_⟩
  rw[J_,h,KM];exact bf ⋯
 ·rintro i acc σ H' ⟨_,_,h,_⟩
  rw[J_];exact h
 ·rintro i acc σ H' ⟨sm,_⟩
  exact aS.of (sm _ _ hl)
 ·rintro i x acc σ H' hx ⟨sm,⟨as,rfl,hA⟩,hi,y,rfl⟩
  have hlt:i<ts.length:=by have:=(J8.mp hx).1;rwa [J_]at this
  rw[Ka,J7 hlt]at hx;cases hx;have hlr:i<rs.length:=by omega
  have hrr:rs[i]?=some rs[i]:=J7 hlr;have ht:=sm _ _ (hat i ts[i] rs[i] (J7 hlt) hrr);walk_at "wp";refine⟨ts[i],rs[i],rfl,ht,hg _ (Kf hlr),λb H2 hb s2=>⟨sm.trans s2,⟨as++[b],by rw[Kj];rfl,?_⟩,hlt⟩⟩;have hal:as.length=i:=by have:=hA.1;rw[KM]at this;omega
  rw[List.take_add_one,hrr];refine⟨by rw[Ku,Ku,hA.1];rfl,λj a r e1 e2=>?_⟩
  by_cases hj:j<as.length
  ·rw[Kt hj]at e1
   rw[Kt (by rw[<- hA.1];exact hj)]at e2;exact(hA.2 j a r e1 e2).up s2
  ·rw[Ks ⋯]at e1
   rw[Ks (by rw[<- hA.1];omega)]at e2;have:j-as.length=0:=by
    have:=(J8.mp e1).1;simp at this;omega
   rw[this]at e1;rw[<- hA.1,this]at e2;cases e1;cases e2
   exact hb
 ·rintro acc σ H' ⟨sm,⟨as,rfl,hA⟩,_⟩
  rw[J_,htl,KL]at hA;exact q as H' sm hA
noncomputable def FS(rs:Yaa):List ThM.NR:=rs.map λr=>(tx r.2.n,(bi r.1 r.2).map tx)
theorem wS{ks:Le}{z y:Str}:y∈c_ ks z↔y∈ks\/y=z:=ThM.mem_addNew
theorem lY{y:Str}:∀(zs ks:Le),y∈zs.foldl c_ ks↔y∈ks\/y∈zs
 | [],ks=>by simp
 |z::zs,ks=>by
  rw[List.foldl_cons,lY zs,wS,Km];exact⟨λh=>h.elim (λh=>h.elim .inl λe=>.inr (.inl e)) λh=>.inr (.inr h),λh=>h.elim (λh=>.inl (.inl h)) λh=>h.elim (λe=>.inl (.inr e)) .inr⟩
theorem mE:∀(zs ks:Le),(zs.foldl c_ ks).length<=ks.length+zs.length
 | [],ks=>Kv _
 |z::zs,ks=>by
  have h1:=mE zs (c_ ks z);have h2:=xF ks z;rw[List.foldl_cons,Ki];omega
theorem zF(z:Str)(rs:Yaa)(r:Nat×RV):(aY z (rs++[r])).map (·.1)=(tx r.2.n::(bi r.1 r.2).map tx).foldl c_ ((aY z rs).map (·.1)):=by
 unfold aY;rw[gC,zx]
theorem BB{α:Type}{P:List α->Prop}(h0:P [])(h1:∀rs r,P rs->P (rs++[r]))(rs:List α):P rs:=by
 have:∀(n:Nat) (rs:List α),rs.length=n->P rs:=by
  intro n
  induction n with
  |zero=>intro rs h;rw[KP.mp h];exact h0
  |succ n ih=>
   intro rs h;have hne:rs≠[]:=by intro e;rw[e]at h;cases h
   rw[<- List.dropLast_concat_getLast hne];exact h1 _ _ (ih _ (by rw[List.length_dropLast];omega))
 exact this _ rs rfl
theorem qL(z:Str)(rs:Yaa):∀y,y∈(aY z rs).map (·.1)↔y=z\/∃r∈FS rs,y=r.1\/y∈r.2:=by
 refine BB (P:=λrs=>∀y,y∈(aY z rs).map (·.1)↔y=z\/∃r∈FS rs,y=r.1\/y∈r.2) ?_ ?_ rs
 ·intro y
  have e:(aY z []).map (·.1)=[z]:=rfl;rw[e];unfold FS;simp
 ·intro rs r ih y
  rw[zF,lY,ih y,Km];unfold FS;rw[Kj]
  constructor
  ·rintro((h | ⟨q,hq,h⟩) | h)
   ·exact .inl h
   ·exact .inr ⟨q,Kk.mpr (.inl hq),h⟩
   ·exact .inr ⟨_,Kk.mpr (.inr (J'.mpr rfl)),h⟩
  ·rintro(h | ⟨q,hq,h⟩)
   ·exact .inl (.inl h)
   ·rcases Kk.mp hq with hq | hq
    ·exact .inl (.inr ⟨q,hq,h⟩)
    ·rw[J'.mp hq]at h
     exact .inr h
theorem DV{sg:K7}{c:Nat}(h:c∈sg):GL (tx sg) (tx [c])=true:=by
 have:=StrLaws.found_one (tx sg) c;show(!(Builtin.Str.occurrences (tx sg) ⟨#[c]⟩ 0 (tx sg).length 1).isEmpty)=true;rw[this,gK,decide_eq_true h]
theorem mz{sg:K7}:∀{rs:Yaa} {j:Nat},(∀r∈rs,∃c∈sg,r.2.sg=[c])->gM (tx sg) rs j=none
 | [],_,_=>rfl
 |r::rs,j,h=>by
  obtain⟨c,hc,e⟩:=h r List.mem_cons_self;unfold gM;rw[if_neg (λz=>by rw[e,DV hc]at z;exact absurd z.2 nofun)];exact mz λr' hr'=>h r' (Kn _ hr')
theorem zI{p:bF}{sg st:K7}{rs:Yaa}(hsg:eJ sg=true)(hst:st∈p)(hpn:∀r∈p,dz r=true)(hp:p.length<=8)(hn:rs.length<=24)(hr:∀r∈rs,qq p sg r):hU sg st rs=none:=by
 have h0:iE sg st rs=none:=by
  unfold iE;rw[if_neg (by rw[hsg];decide),if_neg (by rw[hpn _ hst];decide),if_neg ⋯,mz λr h=>(hr r h).sg]
 unfold hU;rw[h0];simp only[];rw[if_neg];have hk:∀z∈(aY (tx st) rs).map (·.1),z∈p.map tx:=λz hz=>by
  rcases(qL _ _ _).mp hz with e | ⟨q,hq,e⟩
  ·rw[e];exact List.mem_map_of_mem hst
  ·unfold FS at hq
   obtain⟨r,hr',rfl⟩:=KQ.mp hq;have R:=hr r hr';rcases e with e | e
   ·rw[e];exact List.mem_map_of_mem R.n
   ·obtain⟨y,hy,rfl⟩:=KQ.mp e
    refine List.mem_map_of_mem ?_;obtain⟨k,v⟩:=r;rcases kj R.good.k4 with rfl | rfl | rfl | rfl
    ·exact absurd hy List.not_mem_nil
    ·rcases(show y=v.o1\/y=v.o2 by simpa[bi]using hy) with rfl | rfl
     ·exact R.o1
     ·exact R.o2
    ·rcases(show y=v.o1\/y=v.o2 by simpa[bi]using hy) with rfl | rfl
     ·exact R.o1
     ·exact R.o2
    ·rw[show y=v.o1 by simpa[bi]using hy];exact R.o1
 have:=ThM.nd_len (nu (tx st) _ rs rfl).nd hk;rw[J_,J_]at this;omega
structure Hj(K:W.Frag)(C:Addr):Prop where
 cl:fD K C
 na:aq K C "signs"/\aq K C "start"/\aq K C "kept"/\aq K C "numbers"
noncomputable abbrev TR:=List Nat×Nat×Nat×Int
noncomputable def fw(r c:Nat):Int:=2*(r:Int)*(c:Int)-1
theorem g9(r c:Nat):fw r c=2*((r*c:Nat):Int)-1:=by unfold fw;push_cast;rw[Int.mul_assoc]
theorem bP{r c:Nat}(hr:1<=r)(hc:1<=c):1<=fw r c:=by
 rw[g9];have:1<=r*c:=Nat.mul_pos hr hc;omega
noncomputable def j3(lo hi:Int):List Int:=(List.range (hi-lo).toNat).map fun(j:Nat)=>lo+(j:Int)
theorem ki{lo hi x:Int}:x∈j3 lo hi↔lo<=x/\x<hi:=by
 unfold j3;rw[KQ]
 constructor
 ·rintro⟨j,hj,rfl⟩
  rw[List.mem_range]at hj;omega
 ·rintro⟨h1,h2⟩
  exact⟨(x-lo).toNat,by rw[List.mem_range];omega,⋯⟩
noncomputable def aX(o1 o2:K7)(szs:List ((Nat×Nat)×(Nat×Nat)))(left:Int):List (List TR):=
 szs.flatMap λz=>(j3 (fw z.1.1 z.1.2) (left-fw z.2.1 z.2.2+1)).map λf=>[(o1,z.1.1,z.1.2,f),(o2,z.2.1,z.2.2,left-f)]
noncomputable def eY(r c:Nat):List ((Nat×Nat)×(Nat×Nat)):=(List.range (c-1)).map λi=>((r,1+i),(r,c-(1+i)))
noncomputable def fj(r c:Nat):List ((Nat×Nat)×(Nat×Nat)):=(List.range (r-1)).map λi=>((1+i,c),(r-(1+i),c))
noncomputable def cr(q:Nat×RV)(r c:Nat)(k:Int):List (List TR):=match q.1 with
 |0=>if r=1/\c=1/\k=q.2.c then[[]] else[]
 |1=>aX q.2.o1 q.2.o2 (eY r c) (k-q.2.c)
 |2=>aX q.2.o1 q.2.o2 (fj r c) (k-q.2.c)
 |_=>[[(q.2.o1,if q.2.t%2=1 then c else r,if q.2.t%2=1 then r else c,k-q.2.c)]]
noncomputable def aJ(f:TR->Nat)(ps:List TR):Nat:=ps.foldl (λm p=>m*f p) 1
noncomputable def fS(z:K7)(rs:Yaa):Yaa:=rs.filter λq=>decide (q.2.n=z)
noncomputable def cnt(rs:Yaa):Nat->TR->Nat
 |0,_=>0
 |f+1,p=>if p.2.1=0\/p.2.2.1=0\/6<p.2.1\/6<p.2.2.1\/p.2.2.2<fw p.2.1 p.2.2.1 then 0 else
  ((fS p.1 rs).map λq=>((cr q p.2.1 p.2.2.1 p.2.2.2).map λps=>aJ (cnt rs f) ps).sum).sum
structure E6(q:Nat×RV)(r c:Nat)(k:Int)(p:TR):Prop where
 lt:p.2.2.2<k
 ge:1<=p.2.2.2\/k-q.2.c<=p.2.2.2
 r1:1<=p.2.1
 c1:1<=p.2.2.1
 rm:p.2.1<=max r c
 cm:p.2.2.1<=max r c
 nm:(p.1=q.2.o1)\/(p.1=q.2.o2/\(q.1=1\/q.1=2))
theorem mf{o1 o2:K7}{szs:List ((Nat×Nat)×(Nat×Nat))}{left:Int}{ps:List TR}(h:ps∈aX o1 o2 szs left) :
  ∃z∈szs,∃f,fw z.1.1 z.1.2<=f/\f<=left-fw z.2.1 z.2.2/\ps=[(o1,z.1.1,z.1.2,f),(o2,z.2.1,z.2.2,left-f)]:=by
 unfold aX at h;obtain⟨z,hz,h⟩:=List.mem_flatMap.mp h;obtain⟨f,hf,e⟩:=KQ.mp h;have:=ki.mp hf;exact⟨z,hz,f,this.1,⋯,e.symm⟩
theorem x8{r c:Nat}{z:(Nat×Nat)×(Nat×Nat)}(h:z∈eY r c):z.1.1=r/\z.2.1=r/\1<=z.1.2/\1<=z.2.2/\z.1.2+z.2.2=c:=by
 obtain⟨i,hi,rfl⟩:=KQ.mp h;rw[List.mem_range]at hi;refine⟨rfl,rfl,?_,?_,?_⟩<;>show _<;>simp<;>omega
theorem wD{r c:Nat}{z:(Nat×Nat)×(Nat×Nat)}(h:z∈fj r c):z.1.2=c/\z.2.2=c/\1<=z.1.1/\1<=z.2.1/\z.1.1+z.2.1=r:=by
 obtain⟨i,hi,rfl⟩:=KQ.mp h;rw[List.mem_range]at hi;refine⟨rfl,rfl,?_,?_,?_⟩<;>show _<;>simp<;>omega
structure vy(r c:Nat)(z:(Nat×Nat)×(Nat×Nat)):Prop where
 a:1<=z.1.1
 b:1<=z.1.2
 d:1<=z.2.1
 e:1<=z.2.2
 ma:z.1.1<=max r c
 mb:z.1.2<=max r c
 md:z.2.1<=max r c
 me:z.2.2<=max r c
 fe:fw z.1.1 z.1.2+fw z.2.1 z.2.2+1=fw r c
theorem kf{r c:Nat}(hr:1<=r){z:(Nat×Nat)×(Nat×Nat)}(h:z∈eY r c):vy r c z:=by
 obtain⟨h1,h2,h3,h4,h5⟩:=x8 h;obtain⟨⟨a,b⟩,d,e⟩:=z;simp only at h1 h2 h3 h4 h5;subst h1 h2 h5;refine⟨hr,h3,hr,h4,by simp;omega,by simp;omega,by simp;omega,by simp;omega,?_⟩;simp only[g9,Nat.mul_add];omega
theorem kb{r c:Nat}(hc:1<=c){z:(Nat×Nat)×(Nat×Nat)}(h:z∈fj r c):vy r c z:=by
 obtain⟨h1,h2,h3,h4,h5⟩:=wD h;obtain⟨⟨a,b⟩,d,e⟩:=z;simp only at h1 h2 h3 h4 h5;subst h1 h2 h5;refine⟨h3,hc,h4,hc,by simp;omega,by simp;omega,by simp;omega,by simp;omega,?_⟩;simp only[g9,Nat.add_mul];omega
theorem dc{q:Nat×RV}{r c:Nat}{k:Int}{ps:List TR}(h4:q.1<4)(hr:1<=r)(hc:1<=c)(h:ps∈cr q r c k) :
  ps=[]\/(∃p,ps=[p]/\p.1=q.2.o1/\p.2.2.2=k-q.2.c/\((p.2.1=r/\p.2.2.1=c)\/(p.2.1=c/\p.2.2.1=r))) \/
  ((q.1=1\/q.1=2)/\∃z f,vy r c z/\fw z.1.1 z.1.2<=f/\f<=k-q.2.c-fw z.2.1 z.2.2/\ps=[(q.2.o1,z.1.1,z.1.2,f),(q.2.o2,z.2.1,z.2.2,k-q.2.c-f)]):=by
 obtain⟨t,v⟩:=q;have:t=0\/t=1\/t=2\/t=3:=by simp at h4;omega
 rcases this with rfl | rfl | rfl | rfl
 ·left
  change ps∈(if r=1/\c=1/\k=v.c then[[]] else[]) at h
  split at h
  ·simpa using h
  ·simp at h
 ·right;right
  obtain⟨z,hz,f,h1,h2,h3⟩:=mf (show ps∈aX v.o1 v.o2 (eY r c) (k-v.c) from h);exact⟨.inl rfl,z,f,kf hr hz,h1,h2,h3⟩
 ·right;right
  obtain⟨z,hz,f,h1,h2,h3⟩:=mf (show ps∈aX v.o1 v.o2 (fj r c) (k-v.c) from h);exact⟨.inr rfl,z,f,kb hc hz,h1,h2,h3⟩
 ·right;left
  change ps∈[[(v.o1,(if v.t%2=1 then c else r),(if v.t%2=1 then r else c),k-v.c)]]at h;refine⟨_,by simpa using h,rfl,rfl,?_⟩
  by_cases e:v.t%2=1
  ·right;simp[e]
  ·left;simp[e]
theorem jK{q:Nat×RV}{r c:Nat}{k:Int}{ps:List TR}{p:TR}(h4:q.1<4)(hq:1<=q.2.c)(hr:1<=r)(hc:1<=c)(h:ps∈cr q r c k)(hp:p∈ps):E6 q r c k p:=by
 rcases dc h4 hr hc h with rfl | ⟨p',rfl,e1,e2,e3⟩ | ⟨hk,z,f,sz,h1,h2,rfl⟩
 ·cases hp
 ·rw[J'.mp hp]
  refine⟨⋯,.inr ⋯,?_,?_,?_,?_,.inl e1⟩<;>rcases e3 with⟨a,b⟩ | ⟨a,b⟩<;>simp only[a,b]<;>omega
 ·have f1:=bP sz.a sz.b
  have f2:=bP sz.d sz.e;rcases(show p=_\/p=_ by simpa using hp) with rfl | rfl
  ·exact⟨by show f<k;omega,.inl (by show 1<=f;omega),sz.a,sz.b,sz.ma,sz.mb,.inl rfl⟩
  ·exact⟨by show k-q.2.c-f<k;omega,.inl (by show 1<=k-q.2.c-f;omega),sz.d,sz.e,sz.md,sz.me,.inr ⟨rfl,hk⟩⟩
theorem tM{f g:TR->Nat}:∀{ps:List TR},(∀p∈ps,f p=g p)->aJ f ps=aJ g ps:=by
 intro ps h;unfold aJ
 suffices this:∀m,ps.foldl (λm p=>m*f p) m=ps.foldl (λm p=>m*g p) m from this 1
 induction ps with
 |nil=>intro m;rfl
 |cons p ps ih=>
  intro m;rw[List.foldl_cons,List.foldl_cons,h p List.mem_cons_self];exact ih (λp' hp'=>h p' (Kn _ hp')) _
noncomputable def dE(rs:Yaa):Prop:=∀q∈rs,q.1<4/\1<=q.2.c/\q.2.c<=9
theorem gF{z:K7}{rs:Yaa}{q:Nat×RV}(h:q∈fS z rs):q∈rs/\q.2.n=z:=by
 unfold fS at h;rw[List.mem_filter,decide_eq_true_eq]at h;exact h
theorem y8{rs:Yaa}(hg:dE rs){f g:Nat}{p:TR}(h:∀p':TR,p'.2.2.2<p.2.2.2->cnt rs f p'=cnt rs g p'):cnt rs (f+1) p=cnt rs (g+1) p:=by
 unfold cnt
 split
 ·rfl
 ·rename_i hn
  congr 1
  refine List.map_congr_left λq hq=>?_
  congr 1
  refine List.map_congr_left λps hps=>tM λp' hp'=>h p' ?_;obtain⟨h1,h2,_⟩:=hg q (gF hq).1;exact(jK h1 h2 ⋯ ⋯ hps hp').lt
theorem yA{rs:Yaa}{f:Nat}{p:TR}(h:p.2.2.2<1):cnt rs f p=0:=by
 cases f with
 |zero=>rfl
 |succ f=>
  unfold cnt
  split
  ·rfl
  ·rename_i hn
   have:=bP (r:=p.2.1) (c:=p.2.2.1) ⋯ ⋯;omega
theorem we{rs:Yaa}(hg:dE rs):∀(f:Nat) (p:TR),p.2.2.2<(f:Int)+1->cnt rs (f+1) p=cnt rs f p
 |0,p,h=>by rw[yA (by simpa using h),yA (by simpa using h)]
 |f+1,p,h=>y8 hg λp' hp'=>we hg f p' (by push_cast at h;omega)
noncomputable abbrev CN(rs:Yaa)(p:TR):Nat:=cnt rs 17 p
theorem D7{rs:Yaa}(hg:dE rs){p:TR}(hk:p.2.2.2<=16):CN rs p=if p.2.1=0\/p.2.2.1=0\/6<p.2.1\/6<p.2.2.1\/p.2.2.2<fw p.2.1 p.2.2.1 then 0 else
  ((fS p.1 rs).map λq=>((cr q p.2.1 p.2.2.1 p.2.2.2).map λps=>aJ (CN rs) ps).sum).sum:=by
 have e:cnt rs 17 p=cnt rs 18 p:=(we hg 17 p (by push_cast;omega)).symm;unfold CN;rw[e]
 rfl
theorem Dl{rs:Yaa}{p:TR}(h:p.2.2.2<fw p.2.1 p.2.2.1):CN rs p=0:=by
 unfold CN cnt;rw[if_pos ⋯]
theorem nP{α β:Type}{g:β->Nat}{f:α->List β}:∀l:List α,((l.flatMap f).map g).sum=(l.map λx=>((f x).map g).sum).sum
 | []=>rfl
 |x::l=>by rw[List.flatMap_cons,Kj,List.sum_append,nP l,KC,List.sum_cons]
theorem iW{α:Type}(g:α->Nat)(b:Nat):∀(l:List α),(∀x∈l,g x<=b)->(l.map g).sum<=l.length*b
 | [],_=>by simp
 |x::l,h=>by
  have h1:=iW g b l λy hy=>h y (Kn _ hy);have h2:=h x List.mem_cons_self;rw[KC,List.sum_cons,Ki,Nat.add_mul];omega
theorem iO(r c:Nat):(eY r c).length=c-1:=by unfold eY;rw[J_,List.length_range]
theorem iA(r c:Nat):(fj r c).length=r-1:=by unfold fj;rw[J_,List.length_range]
theorem fT{o1 o2:K7}{left:Int}{r c:Nat}(h15:left<=15):∀(szs:List ((Nat×Nat)×(Nat×Nat))),(∀z∈szs,vy r c z)->(aX o1 o2 szs left).length<=szs.length*15
 | [],_=>Kv _
 |z::szs,h=>by
  have ih:=fT (o1:=o1) (o2:=o2) h15 szs λz' hz'=>h z' (Kn _ hz');have f1:=bP (h z List.mem_cons_self).a (h z List.mem_cons_self).b;have f2:=bP (h z List.mem_cons_self).d (h z List.mem_cons_self).e;unfold aX at ih ⊢;rw[List.flatMap_cons,Ku,Ki,J_];unfold j3 at ih ⊢;rw[J_,List.length_range];omega
noncomputable def cY(p:TR):List cS:=[.inr (tx p.1),.inl (p.2.1:Int),.inl (p.2.2.1:Int),.inl p.2.2.2]
noncomputable def cL(p:TR):List V:=[.str (tx p.1),.int (p.2.1:Int),.int (p.2.2.1:Int),.int p.2.2.2]
theorem g_{a b:K7}(h:tx a=tx b):a=b:=by
 have e:(tx a).cps.toList=(tx b).cps.toList:=by rw[h]
 rwa [gK,gK]at e
theorem wn{p q:TR}(h:cY p=cY q):p=q:=by
 obtain⟨a,b,c,d⟩:=p;obtain⟨a',b',c',d'⟩:=q;unfold cY at h;simp only[List.cons.injEq,Sum.inr.injEq,Sum.inl.injEq,and_true]at h;obtain⟨h1,h2,h3,h4⟩:=h;rw[g_ h1,show b=b' by omega,show c=c' by omega,h4]
noncomputable def qw(H:Hp)(l:Addr)(ps:List TR):Prop:=∃bs:List Addr,H l=some (.lst (bs.map V.ref))/\bs.length=ps.length/\∀(i:Nat) b p,bs[i]?=some b->ps[i]?=some p->H b=some (.tup (cL p))
noncomputable def fA(H0 H:Hp)(l:Addr)(pss:List (List TR)):Prop:=∃as:List Addr,H l=some (.lst (as.map V.ref))/\as.length=pss.length/\∀(i:Nat) a ps,as[i]?=some a->pss[i]?=some ps->(H0 a=none/\a≠l)/\qw H a ps
theorem qw.up{H H':Hp}{l:Addr}{ps:List TR}(h:qw H l ps)(s:az H H'):qw H' l ps:=by
 obtain⟨bs,h1,h2,h3⟩:=h;exact⟨bs,s _ _ h1,h2,λi b p e1 e2=>s _ _ (h3 i b p e1 e2)⟩
theorem fA.up{H0 H H':Hp}{l:Addr}{pss:List (List TR)}(h:fA H0 H l pss)(s:az H H'):fA H0 H' l pss:=by
 obtain⟨as,h1,h2,h3⟩:=h;exact⟨as,s _ _ h1,h2,λi a ps e1 e2=>⟨(h3 i a ps e1 e2).1,(h3 i a ps e1 e2).2.up s⟩⟩
theorem qw.put{H:Hp}{l a:Addr}{ps:List TR}{o:HO}(h:qw H a ps)(hne:a≠l)(hl:∃xs,H l=some (.lst xs)):qw (ax H l o) a ps:=by
 obtain⟨bs,h1,h2,h3⟩:=h;obtain⟨xs,hl⟩:=hl;exact⟨bs,by rw[ao hne];exact h1,h2,λi b p e1 e2=>by
  have e:=h3 i b p e1 e2;rw[ao (λz=>by rw[z,hl]at e;cases e)];exact e⟩
theorem fA.nil{H0 H:Hp}{l:Addr}(h:H l=some (.lst [])):fA H0 H l []:=⟨[],h,rfl,λi a ps e=>by simp at e⟩
theorem fA.app{H0 H:Hp}{l a:Addr}{pss:List (List TR)}{ps:List TR}{xs:List V}(h:fA H0 H l pss)(hx:H l=some (.lst xs))(ha:qw H a ps)(hf:H0 a=none)(hne:a≠l):fA H0 (ax H l (.lst (xs++[V.ref a]))) l (pss++[ps]):=by
 obtain⟨as,h1,h2,h3⟩:=h;rw[hx]at h1;cases h1;refine⟨as++[a],by rw[ac,Kj];rfl,by rw[Ku,Ku,h2];rfl,λi b qs e1 e2=>?_⟩
 by_cases hi:i<as.length
 ·rw[Kt hi]at e1
  rw[Kt ⋯]at e2;have:=h3 i b qs e1 e2;exact⟨this.1,this.2.put this.1.2 ⟨_,hx⟩⟩
 ·have hi2:i=as.length:=by
   have:=(J8.mp e1).1;simp at this;omega
  subst hi2;rw[Ks (Kv _),Nat.sub_self]at e1;rw[h2,Ks (Kv _),Nat.sub_self]at e2;cases e1;cases e2
  exact⟨⟨hf,hne⟩,ha.put hne ⟨_,hx⟩⟩
theorem fA.old{H0 H1 H:Hp}{l:Addr}{pss:List (List TR)}(h:fA H1 H l pss)(s:az H0 H1):fA H0 H l pss:=by
 obtain⟨as,h1,h2,h3⟩:=h;exact⟨as,h1,h2,λi a ps e1 e2=>⟨⟨s.free (h3 i a ps e1 e2).1.1,(h3 i a ps e1 e2).1.2⟩,(h3 i a ps e1 e2).2⟩⟩
noncomputable def D8(H:Hp)(as:La)(szs:List ((Nat×Nat)×(Nat×Nat))):Prop:=as.length=szs.length/\∀(i:Nat) a z,as[i]?=some a->szs[i]?=some z->∃x y,H a=some (.tup [.ref x,.ref y])/\H x=some (.tup [.int (z.1.1:Int),.int (z.1.2:Int)])/\H y=some (.tup [.int (z.2.1:Int),.int (z.2.2:Int)])
noncomputable def IJ(H:Hp)(l:Addr)(szs:List ((Nat×Nat)×(Nat×Nat))):Prop:=∃as:List Addr,H l=some (.lst (as.map V.ref))/\D8 H as szs
theorem D8.up{H H':Hp}{as:La}{szs:List ((Nat×Nat)×(Nat×Nat))}(h:D8 H as szs)(s:az H H'):D8 H' as szs:=⟨h.1,λi a z e1 e2=>by
 obtain⟨x,y,h1,h2,h3⟩:=h.2 i a z e1 e2;exact⟨x,y,s _ _ h1,s _ _ h2,s _ _ h3⟩⟩
theorem D8.snoc{H:Hp}{as:La}{szs:List ((Nat×Nat)×(Nat×Nat))}{a x y:Addr}{z:(Nat×Nat)×(Nat×Nat)}(h:D8 H as szs)(h1:H a=some (.tup [.ref x,.ref y]))(h2:H x=some (.tup [.int (z.1.1:Int),.int (z.1.2:Int)]))(h3:H y=some (.tup [.int (z.2.1:Int),.int (z.2.2:Int)])):D8 H (as++[a]) (szs++[z]):=by
 refine⟨by rw[Ku,Ku,h.1];rfl,λi b w e1 e2=>?_⟩
 by_cases hi:i<as.length
 ·rw[Kt hi]at e1
  rw[Kt (by rw[<- h.1];exact hi)]at e2;exact h.2 i b w e1 e2
 ·have hi2:i=as.length:=by
   have:=(J8.mp e1).1;simp at this;omega
  subst hi2;rw[Ks (Kv _),Nat.sub_self]at e1;rw[h.1,Ks (Kv _),Nat.sub_self]at e2;cases e1;cases e2
  exact⟨x,y,h1,h2,h3⟩
noncomputable def bV(d1 d2:Addr)(H H':Hp):Prop:=∀x o,x≠d1->x≠d2->H x=some o->H' x=some o
theorem bV.of{d1 d2:Addr}{H H':Hp}(s:az H H'):bV d1 d2 H H':=λx o _ _ e=>s x o e
theorem bV.trans{d1 d2:Addr}{H H1 H2:Hp}(a:bV d1 d2 H H1)(b:bV d1 d2 H1 H2):bV d1 d2 H H2:=λx o h1 h2 e=>b x o h1 h2 (a x o h1 h2 e)
theorem bV.put2{d1 d2:Addr}{H:Hp}{o:HO}:bV d1 d2 H (ax H d2 o):=λx u _ h2 e=>by rw[ao h2];exact e
noncomputable def F_:HO->Prop | .dT _=>True | _=>False
noncomputable def Kp(H H':Hp):Prop:=∀x o,¬ F_ o->H x=some o->H' x=some o
theorem Kp.of{H H':Hp}(s:az H H'):Kp H H':=λx o _ e=>s x o e
theorem Kp.trans{H H1 H2:Hp}(a:Kp H H1)(b:Kp H1 H2):Kp H H2:=λx o h e=>b x o h (a x o h e)
theorem Kp.put{H:Hp}{d:Addr}{m:List (List cS×V)}{o:HO}(hd:H d=some (.dT m)):Kp H (ax H d o):=λx u h e=>by
 rw[ao (λz=>by rw[z,hd]at e;cases e;exact h trivial)];exact e
theorem Kp.lst{H H':Hp}(s:Kp H H'){a:Addr}{xs:List V}(h:H a=some (.lst xs)):H' a=some (.lst xs):=s _ _ id h
theorem Kp.tup{H H':Hp}(s:Kp H H'){a:Addr}{xs:List V}(h:H a=some (.tup xs)):H' a=some (.tup xs):=s _ _ id h
theorem Kp.ins{H H':Hp}(s:Kp H H'){a C dx:Addr}{fs:List (Str×V)}(h:H a=some (.ins C dx fs)):H' a=some (.ins C dx fs):=s _ _ id h
theorem Kp.dK{H H':Hp}(s:Kp H H'){a:Addr}{fs:List (cS×V)}(h:H a=some (.dK fs)):H' a=some (.dK fs):=s _ _ id h
theorem qw.kp{H H':Hp}{l:Addr}{ps:List TR}(h:qw H l ps)(s:Kp H H'):qw H' l ps:=by
 obtain⟨bs,h1,h2,h3⟩:=h;exact⟨bs,s.lst h1,h2,λi b p e1 e2=>s.tup (h3 i b p e1 e2)⟩
theorem cF.kp{R:RC}{H H':Hp}{as:La}{rs:Yaa}(h:cF R H as rs)(s:Kp H H'):cF R H' as rs:=by
 refine⟨h.1,λi b r e1 e2=>?_⟩;obtain⟨d,l,h1,h2⟩:=h.2 i b r e1 e2;exact⟨d,l,s.ins h1,s.lst h2⟩
theorem dC.kp{R:RC}{H H':Hp}{C dx a:Addr}{sg st:K7}{as:La}{rs:Yaa}(g:dC R H C dx a sg st as rs)(s:Kp H H'):dC R H' C dx a sg st as rs:=by
 obtain⟨lk,pn,t,h1,h2,h3,h4,h5⟩:=g;exact⟨lk,pn,t,s.ins h1,s.lst h2,h3.kp s,⟨s.dK h4.dict,λx hx=>s.lst (h4.list x hx),h4.apart⟩,h5⟩
noncomputable abbrev qp:Stmt:=iZ 32
inductive ik(K:W.Frag)(vs:List V)(H:Hp)(Q:VK)(_E:XK):Prop
 |mk (a:Addr) (r c:Nat) (_:vs=[.ref a]) (_:bh K H a [.int (r:Int),.int (c:Int)]) (_:r<=100) (_:c<=100) (_:Q (.int (fw r c)) H)
theorem Ad:av ["size"] ["size"] (ai qp):=by walk_at "c"
theorem AR{f:Addr}{fd:Lc}(F:cy K "fewest" "fewest" qp f fd):aQ P w K mg base bG 1 f fd ["size"] (ik K):=by
 have sc:=Ad;walk_at "f"
 ·obtain⟨a,r,c,rfl,_⟩:=h;rfl
 ·obtain⟨a,r,c,rfl,sq,hr3,hc3,q⟩:=h
  refine⟨_,(ah (aE (aw (bd.m0 eX) (aw (bd.m1 fk) (aw (bd.m1 fk) aj (aF aG (ak 0) aj (λ_ _=>rfl))) (aF aG (ak 0) aj (λ_ _=>rfl))) aj))),?_⟩;walk_at "wp";exact⟨_,sq,_,rfl,_,rfl,_,sq,_,rfl,_,rfl,.inl ⟨⋯,⋯⟩,q⟩
theorem ke{H:Hp}{a b:Addr}{xs ys:List V}{Q:VK}(ha:H a=some (.tup xs))(hb:H b=some (.tup ys))(hx:xs≠[])(hy:ys≠[])(hz:xs.length+ys.length<=1000)(q:∀p,H p=none->Q (.ref p) (ax H p (.tup (xs++ys)))):DE K (.ref a) (.ref b) H Q:=
 ⟨a,b,xs,ys,rfl,rfl,bh.of ha,bh.of hb,hx,al ⋯,λe=>absurd e hy,λ_=>q⟩
noncomputable abbrev gW:Stmt:=iZ 33
inductive gm(K:W.Frag)(vs:List V)(H:Hp)(Q:VK)(_E:XK):Prop
 |mk (a C dx lp l:Addr) (n o1 o2:K7) (c left:Int) (szs:List ((Nat×Nat)×(Nat×Nat))) (rr cc:Nat) (_:vs=[.ref a,.ref l,.int left]) (_:H a=some (.ins C dx (Dc n c lp o1 o2))) (_:lW K C) (_:aq K C "one") (_:aq K C "other") (_:IJ H l szs) (_:szs.length<=10) (_:(∀z∈szs,vy rr cc z)) (_:rr<=6) (_:cc<=6) (_:left<=15) (_:-100<=left) (_:∀l' H',H l'=none->fA H H' l' (aX o1 o2 szs left)->az H H'->Q (.ref l') H')
theorem qG:av ["rule","sizes","left","found","one","other","first"] ["rule","sizes","left"] (ai gW):=by walk_at "c"
theorem fA.len{H0 H:Hp}{l:Addr}{pss:List (List TR)}{xs:List V}(h:fA H0 H l pss)(hx:H l=some (.lst xs)):xs.length=pss.length:=by
 obtain⟨as,h1,h2,_⟩:=h;rw[hx]at h1;cases h1;rw[J_,h2]
theorem qZ{o1 o2:K7}{left:Int}{szs:List ((Nat×Nat)×(Nat×Nat))}{i:Nat}{z:(Nat×Nat)×(Nat×Nat)}(h:szs[i]?=some z):aX o1 o2 (szs.take (i+1)) left=aX o1 o2 (szs.take i) left++(j3 (fw z.1.1 z.1.2) (left-fw z.2.1 z.2.2+1)).map λf=>[(o1,z.1.1,z.1.2,f),(o2,z.2.1,z.2.2,left-f)]:=by
 unfold aX;rw[List.take_add_one,h,List.flatMap_append];simp
theorem ph{f:Addr}{fd:Lc}(F:cy K "paired_rows" "paired_rows" gW f fd)(nb:NB mg)(yai:eR P w K mg base bG 1 "fewest" ["size"] (ik K)):aQ P w K mg base bG 2 f fd ["rule","sizes","left"] (gm K):=by
 have sc:=qG;walk_at "f"
 ·obtain⟨a,C,dx,lp,l,n,o1,o2,c,left,szs,rr,cc,rfl,_⟩:=h;rfl
 ·obtain⟨a,C,dx,lp,l,n,o1,o2,c,left,szs,rr,cc,rfl,ha,cl,n1,n2,⟨as,hl,hal,hat⟩,hsz,hok,rr6,cc6,hl15,hlm,q⟩:=h
  refine⟨_,(af (aB (i:=3) sc.nd rfl (Or.inl rfl) (bH ad))
   (af (bw PassesOwn.never rfl (cE (ak 1)) (fG (n:=2) rfl (aK (ay (i:=4) sc.nd rfl (Or.inl rfl)) (aK (ay (i:=5) sc.nd rfl (Or.inl rfl)) cW)))
   (ah (bw PassesOwn.never rfl (ib rfl nb.range (aa (aI yai (hr.mono nofun) rfl ba (aa (ak 4) ad)) (aa (aw (bd.m0 bN) (aw (bd.m0 eX) (ak 2) (aI yai (hr.mono nofun) rfl ba (aa (ak 5) ad))) aj) ad))) (ay (i:=6) sc.nd rfl (Or.inl rfl))
   (ah (bv (ic PySem.F.plainAttrs_list PySem.F.slot_list_append PySem.F.type_list_append dN (ak 3) (aa (bH (aa (aw dH (aw dH (aL (aa (bA (ak 0) rfl) ad)) (ak 4)) (aL (aa (ak 6) ad))) (aa (aw dH (aw dH (aL (aa (bA (ak 0) rfl) ad)) (ak 5)) (aL (aa (aw (bd.m0 eX) (ak 2) (ak 6)) ad))) ad))) ad)))))))
   (ah (aE (ak 3))))),?_⟩
  walk_at "n";refine⟨al nofun,λlf hlf=>h1 _ _ ?_⟩;clear h1;have s1:=ae (o:=.lst []) hlf;have e1:ax H lf (.lst []) lf=some (.lst []):=ac;generalize ax H lf (.lst [])=H1 at s1 e1 ⊢;walk_at "n";refine⟨⟨_,aS.of (s1 _ _ hl)⟩,?_⟩;refine dn (xs:=as.map V.ref) (λi σ H'=>az H H'/\i<=as.length/\fA H H' lf (aX o1 o2 (szs.take i) left)/\∃x y z,σ=[some (V.ref a),some (V.ref l),some (V.int left),some (V.ref lf),x,y,z]) ⟨s1,Kw _,fA.nil e1,_,_,_,rfl⟩ (λi σ H' _ h=>aS.of (h.1 _ _ hl)) ?_ ?_
  ·rintro i x σ H' hx ⟨sm,hi,hT,x1,y1,z1,rfl⟩
   have hlt:i<as.length:=by have:=(J8.mp hx).1;rwa [J_]at this
   rw[Ka,J7 hlt]at hx;cases hx;have hzi:szs[i]?=some (szs[i]'⋯):=J7 ⋯;have zok:=hok _ (Kf (show i<szs.length by omega));have hpt:=qZ (o1:=o1) (o2:=o2) (left:=left) hzi;obtain⟨tx1,ty1,ht,htx,hty⟩:=hat i as[i] _ (J7 hlt) hzi;generalize szs[i]'⋯=z at zok hpt htx hty;obtain⟨⟨r1,c1⟩,r2,c2⟩:=z;have ma:=zok.ma;have mb:=zok.mb;have md:=zok.md;have me:=zok.me;have f1:=bP zok.a zok.b;have f2:=bP zok.d zok.e;simp only at ma mb md me hpt htx hty f1 f2;have g1:fw r1 c1<=1000:=by
    rw[g9];have:r1*c1<=6*6:=Nat.mul_le_mul ⋯ ⋯;omega
   have g2:fw r2 c2<=1000:=by
    rw[g9];have:r2*c2<=6*6:=Nat.mul_le_mul ⋯ ⋯;omega
   walk_at "wp";refine⟨_,bh.of (sm _ _ ht),rfl,_,_,rfl,_,_,rfl,rfl,tx1,r1,c1,rfl,bh.of (sm _ _ htx),⋯,⋯,ty1,r2,c2,rfl,bh.of (sm _ _ hty),⋯,⋯,_,rfl,_,rfl,⋯,⋯,⋯,⋯,?_⟩;refine eW (λj σ H'=>az H H'/\fA H H' lf (aX o1 o2 (szs.take i) left++((List.range j).map fun(j:Nat)=>fw r1 c1+(j:Int)).map λf=>[(o1,r1,c1,f),(o2,r2,c2,left-f)])/\∃z,σ=[some (V.ref a),some (V.ref l),some (V.int left),some (V.ref lf),some (V.ref tx1),some (V.ref ty1),z]) ⟨sm,by simpa using hT,_,rfl⟩ ?_ ?_
   ·rintro j σ H2 hj ⟨sm2,hT2,z,rfl⟩
    walk_at "wp";obtain⟨xs,hxs⟩:∃xs,H2 lf=some (.lst xs):=let ⟨as2,h,_⟩:=hT2;⟨_,h⟩
    have hxl:=hT2.len hxs;refine⟨.inl ⟨rfl,_,aS.of hxs⟩,C,dx,_,sm2 _ _ ha,cl,n1,_,rfl,al nofun,λp1 hp1=>?_⟩;have t1:=ae (o:=.tup [V.str (tx o1)]) hp1;refine ke ac (t1 _ _ (sm2 _ _ htx)) (by simp) (by simp) (by simp) λp2 hp2=>⟨al nofun,λp3 hp3=>?_⟩;have t2:=t1.trans (ae (o:=.tup ([V.str (tx o1)]++[V.int (r1:Int),V.int (c1:Int)])) hp2);have e2:ax (ax H2 p1 (.tup [V.str (tx o1)])) p2 (.tup ([V.str (tx o1)]++[V.int (r1:Int),V.int (c1:Int)])) p2=some (.tup [V.str (tx o1),V.int (r1:Int),V.int (c1:Int)]):=ac;generalize ax (ax H2 p1 (.tup [V.str (tx o1)])) p2 (.tup ([V.str (tx o1)]++[V.int (r1:Int),V.int (c1:Int)]))=A2 at t2 e2 hp3 ⊢;have t3:=ae (o:=.tup [V.int (fw r1 c1+(j:Int))]) hp3;refine ke (t3 _ _ e2) ac (by simp) (by simp) (by simp) λp4 hp4=>?_;have t4:=(t2.trans t3).trans (ae (o:=.tup ([V.str (tx o1),V.int (r1:Int),V.int (c1:Int)]++[V.int (fw r1 c1+(j:Int))])) hp4);have e4:ax (ax A2 p3 (.tup [V.int (fw r1 c1+(j:Int))])) p4 (.tup ([V.str (tx o1),V.int (r1:Int),V.int (c1:Int)]++[V.int (fw r1 c1+(j:Int))])) p4=some (.tup (cL (o1,r1,c1,fw r1 c1+(j:Int)))):=ac;generalize ax (ax A2 p3 (.tup [V.int (fw r1 c1+(j:Int))])) p4 (.tup ([V.str (tx o1),V.int (r1:Int),V.int (c1:Int)]++[V.int (fw r1 c1+(j:Int))]))=A4 at t4 e4 ⊢;have s4:=sm2.trans t4;refine⟨C,dx,_,s4 _ _ ha,cl,n2,_,rfl,al nofun,λp5 hp5=>?_⟩;have t5:=ae (o:=.tup [V.str (tx o2)]) hp5;refine ke ac (t5 _ _ (s4 _ _ hty)) (by simp) (by simp) (by simp) λp6 hp6=>⟨al nofun,λp7 hp7=>?_⟩;have t6:=t5.trans (ae (o:=.tup ([V.str (tx o2)]++[V.int (r2:Int),V.int (c2:Int)])) hp6);have e6:ax (ax A4 p5 (.tup [V.str (tx o2)])) p6 (.tup ([V.str (tx o2)]++[V.int (r2:Int),V.int (c2:Int)])) p6=some (.tup [V.str (tx o2),V.int (r2:Int),V.int (c2:Int)]):=ac;generalize ax (ax A4 p5 (.tup [V.str (tx o2)])) p6 (.tup ([V.str (tx o2)]++[V.int (r2:Int),V.int (c2:Int)]))=A6 at t6 e6 hp7 ⊢;have t7:=ae (o:=.tup [V.int (left-(fw r1 c1+(j:Int)))]) hp7;refine ke (t7 _ _ e6) ac (by simp) (by simp) (by simp) λp8 hp8=>?_;have t8:=(t6.trans t7).trans (ae (o:=.tup ([V.str (tx o2),V.int (r2:Int),V.int (c2:Int)]++[V.int (left-(fw r1 c1+(j:Int)))])) hp8);have e8:ax (ax A6 p7 (.tup [V.int (left-(fw r1 c1+(j:Int)))])) p8 (.tup ([V.str (tx o2),V.int (r2:Int),V.int (c2:Int)]++[V.int (left-(fw r1 c1+(j:Int)))])) p8=some (.tup (cL (o2,r2,c2,left-(fw r1 c1+(j:Int))))):=ac;generalize ax (ax A6 p7 (.tup [V.int (left-(fw r1 c1+(j:Int)))])) p8 (.tup ([V.str (tx o2),V.int (r2:Int),V.int (c2:Int)]++[V.int (left-(fw r1 c1+(j:Int)))]))=A8 at t8 e8 ⊢;refine⟨al nofun,λp9 hp9=>?_⟩;have t9:=ae (o:=.lst [V.ref p4,V.ref p8]) hp9;have e9:ax A8 p9 (.lst [V.ref p4,V.ref p8]) p9=some (.lst [V.ref p4,V.ref p8]):=ac;have n9:p9≠lf:=λe=>by rw[e,t8 _ _ (t4 _ _ hxs)]at hp9;cases hp9
    generalize ax A8 p9 (.lst [V.ref p4,V.ref p8])=A9 at t9 e9 ⊢;have s9:=(t4.trans t8).trans t9;have hx9:=s9 _ _ hxs;have hrow:qw A9 p9 [(o1,r1,c1,fw r1 c1+(j:Int)),(o2,r2,c2,left-(fw r1 c1+(j:Int)))]:=⟨[p4,p8],e9,rfl,λi b p x1 x2=>by
     match i,x1,x2 with
     |0,x1,x2=>cases x1;cases x2;exact(t8.trans t9) _ _ e4
     |1,x1,x2=>cases x1;cases x2;exact t9 _ _ e8⟩
    have hlen:(aX o1 o2 (szs.take i) left).length<=150:=KD (fT (r:=rr) (c:=cc) hl15 _ λz hz=>hok z (List.mem_of_mem_take hz)) (by rw[KM];omega);refine⟨_,hx9,?_,?_⟩
    ·rw[hxl,Ku,J_,J_,List.length_range];exact bf ⋯
    ·refine⟨gg (sm2.trans s9) hlf,?_⟩
     rw[List.range_succ,Kj,Kj,<- KI];exact(hT2.up s9).app hx9 hrow (sm2.free (t4.free (t8.free hp9))) n9
   ·rintro σ H2 ⟨sm2,hT2,z,rfl⟩
    refine⟨sm2,hlt,?_,_,_,_,rfl⟩;rw[hpt];exact hT2
  ·rintro σ H' ⟨sm,_,hT,x1,y1,z1,rfl⟩
   refine h1 _ _ ?_;walk_at "wp";rw[J_,hal,KL]at hT;exact q lf H' hlf hT sm
inductive dF(C:Addr)(t:Nat)(vs:List V)(H:Hp)(Q:VK)(_E:XK):Prop
 |mk (a dx lp:Addr) (v:RV) (r c:Nat) (k:Int) (_:vs=[.ref a,.int (r:Int),.int (c:Int),.int k]) (_:H a=some (.ins C dx (wb t lp v))) (_:1<=r) (_:r<=6) (_:1<=c) (_:c<=6) (_:k<=16) (_:1<=k) (_:1<=v.c) (_:v.c<=9) (_:0<=v.t) (_:∀l H',H l=none->fA H H' l (cr (t,v) r c k)->az H H'->Q (.ref l) H')
noncomputable abbrev dM:Stmt:=eQ 28 5
theorem sV:av ["self","rows","columns","cost"] ["self","rows","columns","cost"] (ai dM):=by walk_at "c"
theorem qw.nil{H:Hp}{l:Addr}(h:H l=some (.lst [])):qw H l []:=⟨[],h,rfl,λi a ps e=>by simp at e⟩
theorem fA.one{H0 H:Hp}{l a:Addr}{ps:List TR}(h:H l=some (.lst [.ref a]))(ha:qw H a ps)(hf:H0 a=none)(hne:a≠l):fA H0 H l [ps]:=⟨[a],h,rfl,λi b qs e1 e2=>by
 match i,e1,e2 with
 |0,e1,e2=>cases e1;cases e2;exact⟨⟨hf,hne⟩,ha⟩⟩
theorem Gk{a b c d e f:Int}:jV [V.int a,V.int b,V.int c] [V.int d,V.int e,V.int f]=decide (a=d/\b=e/\c=f):=by
 have e0:jV [V.int a,V.int b,V.int c] [V.int d,V.int e,V.int f]=(((a==d)&&((b==e)&&((c==f)&&true)))&&true):=rfl;rw[e0]
 by_cases h1:a=d<;>by_cases h2:b=e<;>by_cases h3:c=f<;>simp[h1,h2,h3]
theorem tj{f C:Addr}{fd:Lc}(F:cy K "part_rows" "CellRule.part_rows" dM f fd)(nb:NB mg)(cl:lW K C)(na:aq K C "cost"):aQ P w K mg base bG 1 f fd ["self","rows","columns","cost"] (dF C 0):=by
 have sc:=sV;walk_at "f"
 ·obtain⟨a,dx,lp,v,r,c,k,rfl,_⟩:=h;rfl
 ·obtain⟨a,dx,lp,v,r,c,k,rfl,ha,r1,r6,c1,c6,k16,k1,vc,vc9,vt,q⟩:=h
  have hu:=hr.units;refine⟨_,(ah (aE (vq (aH (BQ hu) (aL (aa (ak 1) (aa (ak 2) (aa (ak 3) ad)))) (aL (bK (bK (aa (bA (ak 0) rfl) ad)))) (aO _)) (bH (aa (bH ad) ad)) (bH ad)))),?_⟩;walk_at "wp";refine⟨al nofun,λp hp=>⟨C,dx,_,ae hp _ _ ha,cl,na,_,rfl,al nofun,λp1 hp1=>⟨_,bh.of (ae hp1 _ _ ac),_,bh.of ac,rfl,rfl,?_⟩⟩⟩;have s2:=(ae (o:=.tup [V.int (r:Int),V.int (c:Int),V.int k]) hp).trans (ae (o:=.tup [V.int 1,V.int 1,V.int v.c]) hp1);generalize ax (ax H p (.tup [V.int (r:Int),V.int (c:Int),V.int k])) p1 (.tup [V.int 1,V.int 1,V.int v.c])=H2 at s2 ⊢;rw[Gk];have hp0:cr (0,v) r c k=if r=1/\c=1/\k=v.c then[[]] else[]:=rfl
  rw[hp0]at q
  by_cases hh:r=1/\c=1/\k=v.c
  ·rw[if_pos (by simp;omega)]
   rw[if_pos hh]at q;refine⟨Kw _,λp2 hp2=>⟨al nofun,λp3 hp3=>?_⟩⟩;have t2:=ae (o:=.lst []) hp2;have t3:=ae (o:=.lst [V.ref p2]) hp3;have ne:p2≠p3:=λe=>by rw[<- e,ac]at hp3;cases hp3
   exact q p3 _ (s2.free (t2.free hp3)) (fA.one ac (qw.nil (t3 _ _ ac)) (s2.free hp2) ne) ((s2.trans t2).trans t3)
  ·rw[if_neg (by simp;omega)]
   rw[if_neg hh]at q;exact⟨Kw _,λp2 hp2=>q p2 _ (s2.free hp2) (fA.nil ac) (s2.trans (ae hp2))⟩
noncomputable abbrev cU:Stmt:=eQ 29 5
theorem py:av ["self","rows","columns","cost","sizes"] ["self","rows","columns","cost"] (ai cU):=by walk_at "c"
theorem AX{r c i:Nat}(h:i<c-1):(eY r c)[i]?=some ((r,1+i),(r,c-(1+i))):=by
 unfold eY;rw[Ka,List.getElem?_range h];rfl
theorem qk{f C:Addr}{fd:Lc}(F:cy K "part_rows" "BesideRule.part_rows" cU f fd)(nb:NB mg)(cl:lW K C)(na:aq K C "cost"/\aq K C "one"/\aq K C "other")(yaD:eR P w K mg base bG 2 "paired_rows" ["rule","sizes","left"] (gm K)):aQ P w K mg base bG 3 f fd ["self","rows","columns","cost"] (dF C 1):=by
 have sc:=py;walk_at "f"
 ·obtain⟨a,dx,lp,v,r,c,k,rfl,_⟩:=h;rfl
 ·obtain⟨a,dx,lp,v,r,c,k,rfl,ha,r1,r6,c1,c6,k16,k1,vc,vc9,vt,q⟩:=h
  have hu:=hr.units;refine⟨_,(af (iF (i:=4) ["at"] [1,2] sc.nd rfl (Or.inl rfl) rfl  rfl (bB.of (by kernel_rfl)) (by kernel_rfl) (ib rfl nb.range (bK (aa (ak 2) ad)))
    (λ_ _ _ _=>(ay (i:=0) (by show(["at","rows","columns"]:List Str).Nodup;decide +kernel) rfl (Or.inl rfl))) (λ_ _ _ _=>bU) (λ_ _ _ _=>(aL (aa (aL (aa (ak 1) (aa (ak 0) ad))) (aa (aL (aa (ak 1) (aa (aw (bd.m0 eX) (ak 2) (ak 0)) ad))) ad)))))
   (ah (aE (aI yaD (hr.mono nofun) rfl ba (aa (ak 0) (aa (ak 4) (aa (aw (bd.m0 eX) (ak 3) (bA (ak 0) rfl)) ad))))))),?_⟩
  walk_at "n";refine⟨⋯,⋯,⋯,?_⟩;have en:((c:Int)-1).toNat=c-1:=by omega
  rw[en];refine fh (λi acc σ H'=>az H H'/\i<=c-1/\(∃as:List Addr,acc=as.map V.ref/\D8 H' as ((eY r c).take i))/\∃z,σ=[z,some (V.int (r:Int)),some (V.int (c:Int))]) ⟨λ_ _ e=>e,Kw _,⟨[],rfl,rfl,λi a z e=>by simp at e⟩,_,rfl⟩ ?_ (λi acc σ H' h=>h.2.1) ?_ ?_
  ·rintro i acc σ H' ⟨_,hi,⟨as,rfl,he⟩,_⟩
   rw[J_,he.1,KM];exact bf ⋯
  ·rintro i acc σ H' hi ⟨sm,_,⟨as,rfl,he⟩,z,rfl⟩
   walk_at "wp";refine⟨al nofun,λp1 hp1=>⟨al nofun,λp2 hp2=>⟨al nofun,λp3 hp3=>?_⟩⟩⟩;have t1:=ae (o:=.tup [V.int (r:Int),V.int (1+(i:Int))]) hp1;have t2:=ae (o:=.tup [V.int (r:Int),V.int ((c:Int)-(1+(i:Int)))]) hp2;have t3:=ae (o:=.tup [V.ref p1,V.ref p2]) hp3;have t:=(t1.trans t2).trans t3;refine⟨sm.trans t,hi,as++[p3],by rw[Kj];rfl,?_⟩;rw[List.take_add_one,AX hi];exact(he.up t).snoc (x:=p1) (y:=p2) ac ((t2.trans t3) _ _ (by rw[ac];rw[show(1+(i:Int))=((1+i:Nat):Int) by push_cast;rfl])) (t3 _ _ (by rw[ac];rw[show((c:Int)-(1+(i:Int)))=((c-(1+i):Nat):Int) by omega]))
  rintro acc σ H1 ⟨s1,_,⟨as,rfl,he⟩,z,rfl⟩ l hl;refine h1 _ _ ?_;clear h1;have s2:=ae (o:=.lst (as.map V.ref)) hl;have e2:ax H1 l (.lst (as.map V.ref)) l=some (.lst (as.map V.ref)):=ac;generalize ax H1 l (.lst (as.map V.ref))=H2 at s2 e2 ⊢;have s02:=s1.trans s2;rw[List.take_of_length_le (by rw[iO];omega)]at he;walk_at "wp";refine⟨C,dx,_,s02 _ _ ha,cl,na.1,_,rfl,_,rfl,a,C,dx,lp,l,v.n,v.o1,v.o2,v.c,k-v.c,eY r c,r,c,rfl,s02 _ _ ha,cl,na.2.1,na.2.2,⟨as,e2,he.up s2⟩,by rw[iO];omega,λz hz=>kf r1 hz,r6,c6,⋯,⋯,λl' H' hl' hT s3=>q l' H' (s02.free hl') (hT.old s02) (s02.trans s3)⟩
noncomputable abbrev df:Stmt:=eQ 30 5
theorem q9:av ["self","rows","columns","cost","sizes"] ["self","rows","columns","cost"] (ai df):=by walk_at "c"
theorem Bg{r c i:Nat}(h:i<r-1):(fj r c)[i]?=some ((1+i,c),(r-(1+i),c)):=by
 unfold fj;rw[Ka,List.getElem?_range h];rfl
theorem rq{f C:Addr}{fd:Lc}(F:cy K "part_rows" "AboveRule.part_rows" df f fd)(nb:NB mg)(cl:lW K C)(na:aq K C "cost"/\aq K C "one"/\aq K C "other")(yaD:eR P w K mg base bG 2 "paired_rows" ["rule","sizes","left"] (gm K)):aQ P w K mg base bG 3 f fd ["self","rows","columns","cost"] (dF C 2):=by
 have sc:=q9;walk_at "f"
 ·obtain⟨a,dx,lp,v,r,c,k,rfl,_⟩:=h;rfl
 ·obtain⟨a,dx,lp,v,r,c,k,rfl,ha,r1,r6,c1,c6,k16,k1,vc,vc9,vt,q⟩:=h
  have hu:=hr.units;refine⟨_,(af (iF (i:=4) ["at"] [2,1] sc.nd rfl (Or.inl rfl) rfl  rfl (bB.of (by kernel_rfl)) (by kernel_rfl) (ib rfl nb.range (bK (aa (ak 1) ad)))
    (λ_ _ _ _=>(ay (i:=0) (by show(["at","columns","rows"]:List Str).Nodup;decide +kernel) rfl (Or.inl rfl))) (λ_ _ _ _=>bU) (λ_ _ _ _=>(aL (aa (aL (aa (ak 0) (aa (ak 1) ad))) (aa (aL (aa (aw (bd.m0 eX) (ak 2) (ak 0)) (aa (ak 1) ad))) ad)))))
   (ah (aE (aI yaD (hr.mono nofun) rfl ba (aa (ak 0) (aa (ak 4) (aa (aw (bd.m0 eX) (ak 3) (bA (ak 0) rfl)) ad))))))),?_⟩
  walk_at "n";refine⟨⋯,⋯,⋯,?_⟩;have en:((r:Int)-1).toNat=r-1:=by omega
  rw[en];refine fh (λi acc σ H'=>az H H'/\i<=r-1/\(∃as:List Addr,acc=as.map V.ref/\D8 H' as ((fj r c).take i))/\∃z,σ=[z,some (V.int (c:Int)),some (V.int (r:Int))]) ⟨λ_ _ e=>e,Kw _,⟨[],rfl,rfl,λi a z e=>by simp at e⟩,_,rfl⟩ ?_ (λi acc σ H' h=>h.2.1) ?_ ?_
  ·rintro i acc σ H' ⟨_,hi,⟨as,rfl,he⟩,_⟩
   rw[J_,he.1,KM];exact bf ⋯
  ·rintro i acc σ H' hi ⟨sm,_,⟨as,rfl,he⟩,z,rfl⟩
   walk_at "wp";refine⟨al nofun,λp1 hp1=>⟨al nofun,λp2 hp2=>⟨al nofun,λp3 hp3=>?_⟩⟩⟩;have t1:=ae (o:=.tup [V.int (1+(i:Int)),V.int (c:Int)]) hp1;have t2:=ae (o:=.tup [V.int ((r:Int)-(1+(i:Int))),V.int (c:Int)]) hp2;have t3:=ae (o:=.tup [V.ref p1,V.ref p2]) hp3;have t:=(t1.trans t2).trans t3;refine⟨sm.trans t,hi,as++[p3],by rw[Kj];rfl,?_⟩;rw[List.take_add_one,Bg hi];exact(he.up t).snoc (x:=p1) (y:=p2) ac ((t2.trans t3) _ _ (by rw[ac];rw[show(1+(i:Int))=((1+i:Nat):Int) by push_cast;rfl])) (t3 _ _ (by rw[ac];rw[show((r:Int)-(1+(i:Int)))=((r-(1+i):Nat):Int) by omega]))
  rintro acc σ H1 ⟨s1,_,⟨as,rfl,he⟩,z,rfl⟩ l hl;refine h1 _ _ ?_;clear h1;have s2:=ae (o:=.lst (as.map V.ref)) hl;have e2:ax H1 l (.lst (as.map V.ref)) l=some (.lst (as.map V.ref)):=ac;generalize ax H1 l (.lst (as.map V.ref))=H2 at s2 e2 ⊢;have s02:=s1.trans s2;rw[List.take_of_length_le (by rw[iA];omega)]at he;walk_at "wp";refine⟨C,dx,_,s02 _ _ ha,cl,na.1,_,rfl,_,rfl,a,C,dx,lp,l,v.n,v.o1,v.o2,v.c,k-v.c,fj r c,r,c,rfl,s02 _ _ ha,cl,na.2.1,na.2.2,⟨as,e2,he.up s2⟩,by rw[iA];omega,λz hz=>kb c1 hz,r6,c6,⋯,⋯,λl' H' hl' hT s3=>q l' H' (s02.free hl') (hT.old s02) (s02.trans s3)⟩
noncomputable abbrev dZ:Stmt:=eQ 31 5
theorem uO:av ["self","rows","columns","cost","size"] ["self","rows","columns","cost"] (ai dZ):=by walk_at "c"
theorem sY{f C:Addr}{fd:Lc}(F:cy K "part_rows" "TurnRule.part_rows" dZ f fd)(nb:NB mg)(cl:lW K C)(na:aq K C "cost"/\aq K C "part"/\aq K C "turning"):aQ P w K mg base bG 1 f fd ["self","rows","columns","cost"] (dF C 3):=by
 have sc:=uO;walk_at "f"
 ·obtain⟨a,dx,lp,v,r,c,k,rfl,_⟩:=h;rfl
 ·obtain⟨a,dx,lp,v,r,c,k,rfl,ha,r1,r6,c1,c6,k16,k1,vc,vc9,vt,q⟩:=h
  have hu:=hr.units;refine⟨_,(af (aB (i:=4) sc.nd rfl (Or.inl rfl) (vq (aH i' (aw (bd.m1 bI) (bA (ak 0) rfl) aj) aj (aO _)) (aL (aa (ak 2) (aa (ak 1) ad))) (aL (aa (ak 1) (aa (ak 2) ad)))))
   (ah (aE (bH (aa (bH (aa (aw dH (aw dH (aL (aa (bA (ak 0) rfl) ad)) (ak 4)) (aL (aa (aw (bd.m0 eX) (ak 3) (bA (ak 0) rfl)) ad))) ad)) ad))))),?_⟩
  walk_at "n";have key:∀(x y:Nat) (p:Addr) (H1:Hp),(∃p:TR,cr (3,v) r c k=[[p]]/\p=(v.o1,x,y,k-v.c))->az H H1->H1 p=some (.tup [V.int (x:Int),V.int (y:Int)])->N1 [some (V.ref a),some (V.int (r:Int)),some (V.int (c:Int)),some (V.int k),some (V.ref p)] H1:=by
   rintro x y p H1 ⟨_,ep,rfl⟩ s1 e1;refine h1 _ _ ?_;walk_at "wp";refine⟨C,dx,_,s1 _ _ ha,cl,na.2.1,_,rfl,al nofun,λp1 hp1=>?_⟩;have t1:=ae (o:=.tup [V.str (tx v.o1)]) hp1;refine ke ac (t1 _ _ e1) (by simp) (by simp) (by simp) λp2 hp2=>?_;have t2:=t1.trans (ae (o:=.tup ([V.str (tx v.o1)]++[V.int (x:Int),V.int (y:Int)])) hp2);have e2:ax (ax H1 p1 (.tup [V.str (tx v.o1)])) p2 (.tup ([V.str (tx v.o1)]++[V.int (x:Int),V.int (y:Int)])) p2=some (.tup [V.str (tx v.o1),V.int (x:Int),V.int (y:Int)]):=ac;generalize ax (ax H1 p1 (.tup [V.str (tx v.o1)])) p2 (.tup ([V.str (tx v.o1)]++[V.int (x:Int),V.int (y:Int)]))=A2 at t2 e2 ⊢;refine⟨C,dx,_,(s1.trans t2) _ _ ha,cl,na.1,_,rfl,_,rfl,al nofun,λp3 hp3=>?_⟩;have t3:=ae (o:=.tup [V.int (k-v.c)]) hp3;refine ke (t3 _ _ e2) ac (by simp) (by simp) (by simp) λp4 hp4=>?_;have t4:=(t2.trans t3).trans (ae (o:=.tup ([V.str (tx v.o1),V.int (x:Int),V.int (y:Int)]++[V.int (k-v.c)])) hp4);have e4:ax (ax A2 p3 (.tup [V.int (k-v.c)])) p4 (.tup ([V.str (tx v.o1),V.int (x:Int),V.int (y:Int)]++[V.int (k-v.c)])) p4=some (.tup (cL (v.o1,x,y,k-v.c))):=ac;generalize ax (ax A2 p3 (.tup [V.int (k-v.c)])) p4 (.tup ([V.str (tx v.o1),V.int (x:Int),V.int (y:Int)]++[V.int (k-v.c)]))=A4 at t4 e4 ⊢;refine⟨al nofun,λp5 hp5=>⟨al nofun,λp6 hp6=>?_⟩⟩;have t5:=ae (o:=.lst [V.ref p4]) hp5;have t6:=ae (o:=.lst [V.ref p5]) hp6;have ne:p5≠p6:=λe=>by rw[<- e,ac]at hp6;cases hp6
   have s4:=s1.trans t4;rw[ep]at q;refine q p6 _ (s4.free (t5.free hp6)) (fA.one ac ⟨[p4],t6 _ _ ac,rfl,λi b z x1 x2=>?_⟩ (s4.free hp5) ne) ((s4.trans t5).trans t6)
   match i,x1,x2 with
   |0,x1,x2=>cases x1;cases x2;exact(t5.trans t6) _ _ e4
  refine⟨C,dx,_,ha,cl,na.2.2,_,rfl,_,rfl,?_⟩
  by_cases ht:v.t%2=1
  ·rw[if_pos ht]
   exact⟨al nofun,λp hp=>key c r p _ ⟨_,rfl,by simp[ht]⟩ (ae hp) ac⟩
  ·rw[if_neg ht]
   exact⟨al nofun,λp hp=>key r c p _ ⟨_,rfl,by simp[ht]⟩ (ae hp) ac⟩
noncomputable def k6(R:RC):List (Addr×Sp):=[(R.cc,dF R.cc 0),(R.cb,dF R.cb 1),(R.ca,dF R.ca 2),(R.ct,dF R.ct 3)]
theorem CV{R:RC}{H:Hp}{t a}{v:RV}{r c:Nat}{k:Int}{Q:VK}{E:XK}(h4:t<4)(ra:iT R H t a v)(r1:1<=r)(r6:r<=6)(c1:1<=c)(c6:c<=6)(k16:k<=16)(k1:1<=k)(vc:1<=v.c)(vc9:v.c<=9)(vt:0<=v.t)(q:∀l H',H l=none->fA H H' l (cr (t,v) r c k)->az H H'->Q (.ref l) H') :
  ∃o∈k6 R,∃dx fs,H a=some (.ins o.1 dx fs)/\fs.lookup ("part_rows":Str)=none/\o.2 [.ref a,.int (r:Int),.int (c:Int),.int k] H Q E:=by
 obtain⟨dx,l,h1,_⟩:=ra;have:t=0\/t=1\/t=2\/t=3:=by omega
 rcases this with rfl | rfl | rfl | rfl
 ·exact⟨(R.cc,dF R.cc 0),by simp[k6],dx,_,h1,rfl,a,dx,l,v,r,c,k,rfl,h1,r1,r6,c1,c6,k16,k1,vc,vc9,vt,q⟩
 ·exact⟨(R.cb,dF R.cb 1),by simp[k6],dx,_,h1,rfl,a,dx,l,v,r,c,k,rfl,h1,r1,r6,c1,c6,k16,k1,vc,vc9,vt,q⟩
 ·exact⟨(R.ca,dF R.ca 2),by simp[k6],dx,_,h1,rfl,a,dx,l,v,r,c,k,rfl,h1,r1,r6,c1,c6,k16,k1,vc,vc9,vt,q⟩
 ·exact⟨(R.ct,dF R.ct 3),by simp[k6],dx,_,h1,rfl,a,dx,l,v,r,c,k,rfl,h1,r1,r6,c1,c6,k16,k1,vc,vc9,vt,q⟩
inductive Gr(rs:Yaa):Dt->List Nat->bF->Int->Nat->Prop
 |cell {n:Nat} {v:RV}:rs[n]?=some (0,v)->Gr rs (.tup [.int (n:Int)]) v.n [v.sg] v.c 1
 |turn {n:Nat} {v:RV} {d:Dt} {p:bF} {c:Int} {k:Nat}:rs[n]?=some (3,v)->Gr rs d v.o1 p c k->Gr rs (.tup [.int (n:Int),d]) v.n (turned p v.t.toNat) (v.c+c) (k+1)
 |pair {n kd:Nat} {v:RV} {d1 d2:Dt} {p1 p2 p:bF} {c1 c2:Int} {k1 k2:Nat}:(kd=1\/kd=2)->rs[n]?=some (kd,v)->Gr rs d1 v.o1 p1 c1 k1->Gr rs d2 v.o2 p2 c2 k2->gu kd v [p1,p2]=some p->Gr rs (.tup [.int (n:Int),d1,d2]) v.n p (v.c+(c1+c2)) (max k1 k2+1)
theorem wu{k:Nat}{v:RV}{p1 p2 p:bF}{r c r' c':Nat}(hk:k=1\/k=2)(h1:eF p1 r c)(h2:eF p2 r' c')(m:gu k v [p1,p2]=some p):∃r c,eF p r c:=by
 have e1:=bp h1.rc h1.r0;have e2:=bp h2.rc h2.r0;have l1:=h1.rc.1;have l2:=h2.rc.1;rcases hk with rfl | rfl
 ·have m':(if p1.length=p2.length/\(p1.headD []).length+(p2.headD []).length<=6 then some (put2 p1 p2) else none)=some p:=m
  by_cases c0:p1.length=p2.length/\(p1.headD []).length+(p2.headD []).length<=6
  ·rw[if_pos c0]at m'
   cases m';rw[l1,l2,e1,e2]at c0;refine⟨r,c+c',⟨?_,h1.r0,h1.r6,by have:=h1.c0;omega,c0.2⟩⟩;refine⟨by unfold put2;rw[J_,List.length_zip,l1,l2];omega,λx hx=>?_⟩;unfold put2 at hx;obtain⟨y,hy,rfl⟩:=KQ.mp hx;have:=List.of_mem_zip hy;rw[Ku,h1.rc.2 _ this.1,h2.rc.2 _ this.2]
  ·rw[if_neg c0]at m';cases m'
 ·have m':(if(p1.headD []).length=(p2.headD []).length/\p1.length+p2.length<=6 then some (p1++p2) else none)=some p:=m
  by_cases c0:(p1.headD []).length=(p2.headD []).length/\p1.length+p2.length<=6
  ·rw[if_pos c0]at m'
   cases m';rw[l1,l2,e1,e2]at c0;refine⟨r+r',c,⟨⟨by rw[Ku,l1,l2],λx hx=>?_⟩,by have:=h1.r0;omega,c0.2,h1.c0,h1.c6⟩⟩;rcases Kk.mp hx with h | h
   ·exact h1.rc.2 _ h
   ·rw[c0.1];exact h2.rc.2 _ h
  ·rw[if_neg c0]at m';cases m'
theorem rO{p:bF}{r c:Nat}(h:eF p r c)(t:Nat):∃r c,eF (turned p t) r c:=by
 have hm:fg (if 4<=t then fH p else p) r c:=by split;exact gJ h.rc;exact h.rc
 have:=cR (t%4) hm h.r0 h.c0;unfold turned
 by_cases e:t%4%2=0
 ·rw[if_pos e,if_pos e]at this;exact⟨r,c,this,h.r0,h.r6,h.c0,h.c6⟩
 ·rw[if_neg e,if_neg e]at this;exact⟨c,r,this,h.c0,h.c6,h.r0,h.r6⟩
theorem Gr.pic6{rs:Yaa}(hg:∀r∈rs,dD r){d:Dt}{nm:K7}{p:bF}{c:Int}{k:Nat}(g:Gr rs d nm p c k):∃r c,eF p r c:=by
 induction g with
 | @cell n v e=>
  have:=mZ (hg _ (Kb e)).good.sg;exact⟨1,1,⟨rfl,λx hx=>by rw[J'.mp hx];exact this⟩,nofun,nofun,nofun,nofun⟩
 |turn e _ ih=>obtain⟨r,c,h⟩:=ih;exact rO h _
 |pair h e _ _ m ih1 ih2=>obtain⟨r,c,h1⟩:=ih1;obtain⟨r',c',h2⟩:=ih2;exact wu h h1 h2 m
theorem xa{H:Hp}{l lp:Addr}{as:La}{p:bF}(h1:H l=some (.lst (as.map V.ref)))(h2:H lp=some (.lst (aD p)))(h3:p≠[]):lp≠l:=λe=>by
 rw[e,h1]at h2;have h4:=HO.lst.inj (Option.some.inj h2);cases p with
 |nil=>exact h3 rfl
 |cons r p=>
  cases as with
  |nil=>exact nomatch h4
  |cons a as=>have:=(List.cons.inj h4).1;cases this
theorem gG{H H':Hp}{a:Addr}(s:az H H')(h:H' a=none):H a=none:=by
 cases e:H a with
 |none=>rfl
 |some o=>rw[s _ _ e]at h;cases h
theorem iq{H:Hp}{a b:Addr}{xs ys:List V}{Q:VK}(ha:H a=some (.tup xs))(hb:H b=some (.tup ys))(hx:xs≠[])(hz:xs.length+ys.length<=1000)(q:∀p H',H' p=some (.tup (xs++ys))->az H H'->Q (.ref p) H'):DE K (.ref a) (.ref b) H Q:=
 ⟨a,b,xs,ys,rfl,rfl,bh.of ha,bh.of hb,hx,al ⋯,λe=>q a H (by rw[e,KH];exact ha) (az.refl _),λ_ p hp=>q p _ ac (ae hp)⟩
theorem fq{c:Prop}[Decidable c]{A B:Prop}(hA:c->A)(hB:¬ c->B):if c then A else B:=by
 by_cases h:c
 ·rw[if_pos h];exact hA h
 ·rw[if_neg h];exact hB h
inductive bD where
 |n0:Int->bD
 |n1:Int->bD->bD
 |n2:Int->bD->bD->bD
noncomputable def bD.i:bD->Int
 | .n0 i=>i
 | .n1 i _=>i
 | .n2 i _ _=>i
noncomputable def bD.ps:bD->List bD
 | .n0 _=>[]
 | .n1 _ a=>[a]
 | .n2 _ a b=>[a,b]
noncomputable def bD.d:bD->Dt
 | .n0 i=>.tup [.int i]
 | .n1 i a=>.tup [.int i,a.d]
 | .n2 i a b=>.tup [.int i,a.d,b.d]
noncomputable def bD.cnt:bD->Nat
 | .n0 _=>1
 | .n1 _ a=>a.cnt+1
 | .n2 _ a b=>a.cnt+b.cnt+1
noncomputable def bD.dep:bD->Nat
 | .n0 _=>1
 | .n1 _ a=>a.dep+1
 | .n2 _ a b=>max a.dep b.dep+1
theorem bD.d_eq(t:bD):t.d=.tup (.int t.i::t.ps.map bD.d):=by cases t<;>rfl
theorem bD.val{H:Hp}{v:V}{t:bD}(h:b5 H t.d v):∃a vs,v=.ref a/\H a=some (.tup (.int t.i::vs))/\aR H (t.ps.map bD.d) vs:=by
 rw[t.d_eq]at h;unfold b5 at h;obtain⟨a,xs,rfl,hta,hts⟩:=h;obtain⟨x0,ys,rfl,hx0,htr⟩:=hts.uncons;unfold b5 at hx0;subst hx0;exact⟨a,ys,rfl,hta,htr⟩
theorem bD.of{H:Hp}{a:Addr}{vs:List V}{t:bD}(h:H a=some (.tup (.int t.i::vs)))(k:aR H (t.ps.map bD.d) vs):b5 H t.d (.ref a):=by
 rw[t.d_eq];exact b5.node h k
theorem bD.lt{s t:bD}(h:s∈t.ps):s.dep<t.dep/\s.cnt<t.cnt:=by
 cases t with
 |n0 i=>exact nomatch h
 |n1 i a=>rw[J'.mp h];simp only[bD.dep,bD.cnt];omega
 |n2 i a b=>
  rcases Km.mp h with rfl | h
  ·simp only[bD.dep,bD.cnt];omega
  ·rw[J'.mp h];simp only[bD.dep,bD.cnt];omega
theorem bD.cnt1(t:bD):1<=t.cnt:=by cases t<;>simp[bD.cnt]
theorem bD.dep1(t:bD):1<=t.dep:=by cases t<;>simp[bD.dep]
noncomputable def ve(i:Int):List bD->bD
 | []=>.n0 i
 | [a]=>.n1 i a
 |a::b::_=>.n2 i a b
theorem yt(i:Int)(ds:List bD):(ve i ds).i=i:=by
 match ds with
 | []=>rfl
 | [a]=>rfl
 |a::b::_=>rfl
theorem uo(i:Int){ds:List bD}(h:ds.length<=2):(ve i ds).ps=ds:=by
 match ds,h with
 | [],_=>rfl
 | [a],_=>rfl
 | [a,b],_=>rfl
 |a::b::c::_,h=>simp at h
theorem yC(t:bD):ve t.i t.ps=t:=by cases t<;>rfl
noncomputable def Sub:List Nat->bD->Option bD
 | [],t=>some t
 |k::pl,t=>match t.ps[k]? with
  |some s=>Sub pl s
  |none=>none
theorem wj{α:Type}(x:α)(xs:List α):jl (x::xs) 0=some x:=show jl (x::xs) ((0:Nat):Int)=some x from bx rfl
theorem fX{H:Hp}:∀{ds:List Dt} {xs:List V},aR H ds xs->∀{j:Nat} {x:V},xs[j]?=some x->∃d,ds[j]?=some d/\b5 H d x
 | [],_,h,j,x,e=>by unfold aR at h;subst h;simp at e
 |d::ds,xs,h,j,x,e=>by
  obtain⟨y,r,rfl,h1,h2⟩:=h.uncons
  match j,e with
  |0,e=>cases e;exact⟨d,rfl,h1⟩
  |j+1,e=>exact fX h2 e
theorem sH{H:Hp}{t:bD}{vs:List V}{j:Nat}{x:V}(h:aR H (t.ps.map bD.d) vs)(e:vs[j]?=some x):∃s,t.ps[j]?=some s/\b5 H s.d x:=by
 obtain⟨d,h1,h2⟩:=fX h e;rw[Ka]at h1;obtain⟨s,hs,rfl⟩:=Kz.mp h1;exact⟨s,hs,h2⟩
theorem sJ{H:Hp}{t:bD}{vs:List V}(h:aR H (t.ps.map bD.d) vs):vs.length=t.ps.length:=by rw[h.length,J_]
theorem Ej(x:V)(ys:List V):m3 (x::ys) (some 1) none=ys:=by
 unfold m3;rw[show(some 1:Option Int)=some ((1:Nat):Int) from rfl,HT.sIx_nat,HT.sIx_none,K1 (by simp)];exact List.take_of_length_le (by simp)
theorem oX(x:V)(ys:List V):¬ (HT.sIx (x::ys).length 0 (some 1)=0/\HT.sIx (x::ys).length (x::ys).length none=(x::ys).length):=by
 rw[show(some 1:Option Int)=some ((1:Nat):Int) from rfl,HT.sIx_nat,K1 (by simp)];exact λh=>absurd h.1 nofun
theorem eZ{z:Str}{rs:Yaa}{n:Nat}(h:n∈bM z rs):∃q,rs[n]?=some q/\tx q.2.n=z:=by
 unfold bM at h;obtain⟨x,hx,e⟩:=List.mem_filterMap.mp h
 split at e
 ·rename_i hz
  cases e;exact⟨x.1,List.mem_zipIdx_iff_getElem?.mp hx,hz⟩
 ·cases e
theorem yP(S:Nat×RV->Nat)(z:K7):∀(n:Nat) (rs:Yaa),rs.length=n->((bM (tx z) rs).map λi=>(rs[i]?.map S).getD 0).sum=((fS z rs).map S).sum
 |0,rs,h=>by rw[KP.mp h];rfl
 |n+1,rs,h=>by
  obtain⟨rs',r,rfl⟩:∃rs' r,rs=rs'++[r]:=⟨rs.dropLast,rs.getLast (by intro e;rw[e]at h;cases h),(List.dropLast_concat_getLast _).symm⟩;have hl:rs'.length=n:=by rw[Ku,List.length_singleton]at h;omega
  have ih:=yP S z n rs' hl;rw[qh,Kj,List.sum_append];have e1:(bM (tx z) rs').map (λi=>((rs'++[r])[i]?.map S).getD 0)=(bM (tx z) rs').map λi=>(rs'[i]?.map S).getD 0:=List.map_congr_left λi hi=>by
   obtain⟨q,hq,_⟩:=eZ hi;rw[Kt (J8.mp hq).1]
  rw[e1,ih];unfold fS;rw[List.filter_append,Kj,List.sum_append]
  congr 1
  by_cases hz:r.2.n=z
  ·rw[if_pos (by rw[hz])]
   simp[hz]
  ·rw[if_neg (λe=>hz (g_ e))]
   simp[hz]
theorem iP{q:Nat×RV}{r c:Nat}{k:Int}(h4:q.1<4)(hq:1<=q.2.c)(hr:1<=r)(hc:1<=c)(hr6:r<=6)(hc6:c<=6)(hk:k<=16):(cr q r c k).length<=75:=by
 obtain⟨t,v⟩:=q;have:t=0\/t=1\/t=2\/t=3:=by simp at h4;omega
 simp only at hq;rcases this with rfl | rfl | rfl | rfl
 ·show(if r=1/\c=1/\k=v.c then[[]] else[]).length<=75
  split<;>simp
 ·refine KD (fT (by show k-v.c<=15;omega) _ λz hz=>kf hr hz) ?_
  rw[iO];omega
 ·refine KD (fT (by show k-v.c<=15;omega) _ λz hz=>kb hc hz) ?_
  rw[iA];omega
 ·show([[_]]:List (List TR)).length<=75
  simp
theorem nS{z:Str}:∀{m:List (Str×List Nat)},z∉m.map (·.1)->m.lookup z=none
 | [],_=>rfl
 |p::m,h=>by
  rw[KC,Km]at h;have h1:(z==p.1)=false:=beq_eq_false_iff_ne.mpr λe=>h (.inl e);rw[List.lookup_cons,h1];exact nS λq=>h (.inr q)
theorem Em{R:RC}{H:Hp}{t:Nat}{a b:Addr}{v:RV}{p:TR}{Q:VK}{E:XK}(hb:H b=some (.tup (cL p)))(h4:t<4)(ra:iT R H t a v)(r1:1<=p.2.1)(r6:p.2.1<=6)(c1:1<=p.2.2.1)(c6:p.2.2.1<=6)(k16:p.2.2.2<=16)(k1:1<=p.2.2.2)(vc:1<=v.c)(vc9:v.c<=9)(vt:0<=v.t)(q:∀l H',H l=none->fA H H' l (cr (t,v) p.2.1 p.2.2.1 p.2.2.2)->az H H'->Q (.ref l) H') :
  ∃o,o∈k6 R/\∃a_1,V.ref a=V.ref a_1/\∃dx fs,H a_1=some (.ins o.1 dx fs)/\fs.lookup (Str.ofString "part_rows")=none/\∃xs,bh K H b xs/\∃v1,jl xs 1=some v1/\∃xs,bh K H b xs/\∃v2,jl xs 2=some v2/\∃xs,bh K H b xs/\∃v3,jl xs 3=some v3/\o.2 [.ref a,v1,v2,v3] H Q E:=by
 obtain⟨o,ho,dx,fs,e1,e2,e3⟩:=CV (E:=E) h4 ra r1 r6 c1 c6 k16 k1 vc vc9 vt q;exact⟨o,ho,a,rfl,dx,fs,e1,e2,_,bh.of hb,_,rfl,_,bh.of hb,_,rfl,_,bh.of hb,_,rfl,e3⟩
noncomputable abbrev uy:=Nat×List TR×Nat
noncomputable def cJ(rs:Yaa)(p:TR)(i:Nat):List uy:=match rs[i]? with
 |some q=>(cr q p.2.1 p.2.2.1 p.2.2.2).filterMap λps=>if 0<aJ (CN rs) ps then some (i,ps,aJ (CN rs) ps) else none
 |none=>[]
noncomputable def aN(rs:Yaa)(p:TR):List uy:=if p.2.2.2<fw p.2.1 p.2.2.1 then[] else(bM (tx p.1) rs).flatMap (cJ rs p)
noncomputable def bt(F:TR->List bD):List TR->List (List bD)
 | []=>[[]]
 |p::ps=>(F p).flatMap λt=>(bt F ps).map (t :: ·)
noncomputable def D4(rs:Yaa):Nat->TR->List bD
 |0,_=>[]
 |f+1,p=>(aN rs p).flatMap λs=>(bt (D4 rs f) s.2.1).map (ve (s.1:Int))
noncomputable abbrev RT(rs:Yaa)(p:TR):List bD:=D4 rs 17 p
structure dW(p:TR):Prop where
 r1:1<=p.2.1
 r6:p.2.1<=6
 c1:1<=p.2.2.1
 c6:p.2.2.1<=6
 k16:p.2.2.2<=16
theorem fb{rs:Yaa}{p:TR}{s:uy}(h:s∈aN rs p):∃q,rs[s.1]?=some q/\q.2.n=p.1/\s.2.1∈cr q p.2.1 p.2.2.1 p.2.2.2/\s.2.2=aJ (CN rs) s.2.1/\0<s.2.2/\fw p.2.1 p.2.2.1<=p.2.2.2:=by
 unfold aN at h
 split at h
 ·cases h
 ·rename_i hk
  obtain⟨i,hi,h⟩:=List.mem_flatMap.mp h;obtain⟨q,hq,hn⟩:=eZ hi;unfold cJ at h;rw[hq]at h;obtain⟨ps,hps,e⟩:=List.mem_filterMap.mp h
  split at e
  ·rename_i h0
   cases e;exact⟨q,hq,g_ hn,hps,rfl,h0,⋯⟩
  ·cases e
theorem dY{rs:Yaa}(hg:dE rs){p p':TR}{s:uy}(ok:dW p)(h:s∈aN rs p)(hp:p'∈s.2.1):dW p'/\p'.2.2.2<p.2.2.2:=by
 obtain⟨q,hq,_,hps,_,_,hk⟩:=fb h;obtain⟨h4,hc,_⟩:=hg q (Kb hq);have po:=jK h4 hc ok.r1 ok.c1 hps hp;have:=ok.r6;have:=ok.c6;have:=ok.k16;have:=po.rm;have:=po.cm;exact⟨⟨po.r1,⋯,po.c1,⋯,by have:=po.lt;omega⟩,po.lt⟩
theorem nW{F G:TR->List bD}:∀{ps:List TR},(∀p∈ps,F p=G p)->bt F ps=bt G ps
 | [],_=>rfl
 |p::ps,h=>by
  unfold bt;rw[h p List.mem_cons_self,nW λp' hp'=>h p' (Kn _ hp')]
theorem jp{α β:Type}{f g:α->List β}:∀{l:List α},(∀x∈l,f x=g x)->l.flatMap f=l.flatMap g
 | [],_=>rfl
 |x::l,h=>by rw[List.flatMap_cons,List.flatMap_cons,h x List.mem_cons_self,jp λy hy=>h y (Kn _ hy)]
theorem AZ{rs:Yaa}{p:TR}(ok:dW p)(h:p.2.2.2<1):aN rs p=[]:=by
 unfold aN;rw[if_pos (by have:=bP ok.r1 ok.c1;omega)]
theorem mj{rs:Yaa}{p:TR}(ok:dW p)(h:p.2.2.2<1)(f:Nat):D4 rs f p=[]:=by
 cases f with
 |zero=>rfl
 |succ f=>unfold D4;rw[AZ ok h];rfl
theorem vJ{rs:Yaa}(hg:dE rs):∀(f:Nat) (p:TR),dW p->p.2.2.2<(f:Int)+1->D4 rs (f+1) p=D4 rs f p
 |0,p,ok,h=>by rw[mj ok (by simpa using h),mj ok (by simpa using h)]
 |f+1,p,ok,h=>by
  show(aN rs p).flatMap _=(aN rs p).flatMap _;refine jp λs hs=>?_;rw[nW λp' hp'=>?_];obtain⟨ok',lt⟩:=dY hg ok hs hp';exact vJ hg f p' ok' (by push_cast at h;omega)
theorem mB{rs:Yaa}(hg:dE rs){p:TR}(ok:dW p):RT rs p=(aN rs p).flatMap λs=>(bt (RT rs) s.2.1).map (ve (s.1:Int)):=by
 have:=(vJ hg 17 p ok (by have:=ok.k16;push_cast;omega)).symm;exact this
theorem vz{α β:Type}{f:α->List β}{n:Nat}:∀{l:List α},(∀x,(f x).length=n)->(l.flatMap f).length=l.length*n
 | [],_=>by simp
 |x::l,h=>by rw[List.flatMap_cons,Ku,h x,vz (l:=l) h,Ki,Nat.add_mul];omega
theorem xh{rs:Yaa}{i:Nat}:∀pss:List (List TR),((pss.filterMap λps=>if 0<aJ (CN rs) ps then some ((i,ps,aJ (CN rs) ps):uy) else none).map λs=>s.2.2).sum=(pss.map λps=>aJ (CN rs) ps).sum
 | []=>rfl
 |ps::pss=>by
  rw[List.filterMap_cons,KC,List.sum_cons]
  by_cases h0:0<aJ (CN rs) ps
  ·rw[if_pos h0]
   show((_::_:List uy).map λs=>s.2.2).sum=_;rw[KC,List.sum_cons,xh pss]
  ·rw[if_neg h0]
   show(List.map _ _).sum=_;rw[xh pss];omega
theorem eV{F:TR->List bD}{g:TR->Nat}:∀{ps:List TR},(∀p∈ps,(F p).length=g p)->(bt F ps).length=aJ g ps:=by
 have key:∀{ps:List TR} (m:Nat),(∀p∈ps,(F p).length=g p)->ps.foldl (λm p=>m*g p) m=m*(bt F ps).length:=by
  intro ps
  induction ps with
  |nil=>intro m _;unfold bt;simp
  |cons p ps ih=>
   intro m h;rw[List.foldl_cons,ih _ λp' hp'=>h p' (Kn _ hp')];have:(bt F (p::ps)).length=(F p).length*(bt F ps).length:=by
    show((F p).flatMap λt=>(bt F ps).map (t :: ·)).length=_;rw[vz (n:=(bt F ps).length) λt=>by rw[J_]]
   rw[this,h p List.mem_cons_self,Nat.mul_assoc]
 intro ps h;unfold aJ;rw[key 1 h,Nat.one_mul]
theorem jA{α β:Type}(f:α->List β):∀l:List α,(l.flatMap f).length=(l.map λx=>(f x).length).sum
 | []=>rfl
 |x::l=>by rw[List.flatMap_cons,Ku,jA f l,KC,List.sum_cons]
theorem mR{rs:Yaa}(hg:dE rs){p:TR}(ok:dW p):((aN rs p).map λs=>s.2.2).sum=CN rs p:=by
 unfold aN
 by_cases hk:p.2.2.2<fw p.2.1 p.2.2.1
 ·rw[if_pos hk,Dl hk];rfl
 rw[if_neg hk];have:=ok.r1;have:=ok.r6;have:=ok.c1;have:=ok.c6;rw[D7 hg ok.k16,if_neg ⋯,<- yP (λq=>((cr q p.2.1 p.2.2.1 p.2.2.2).map λps=>aJ (CN rs) ps).sum) p.1 _ rs rfl,nP]
 congr 1
 refine List.map_congr_left λi hi=>?_;obtain⟨q,hq,_⟩:=eZ hi;rw[hq];show((cJ rs p i).map λs=>s.2.2).sum=((cr q p.2.1 p.2.2.1 p.2.2.2).map λps=>aJ (CN rs) ps).sum;have e:cJ rs p i=(cr q p.2.1 p.2.2.1 p.2.2.2).filterMap λps=>if 0<aJ (CN rs) ps then some (i,ps,aJ (CN rs) ps) else none:=by unfold cJ;rw[hq]
 rw[e,xh]
theorem B6{rs:Yaa}(hg:dE rs):∀(f:Nat) (p:TR),dW p->p.2.2.2<(f:Int)->(RT rs p).length=CN rs p
 |0,p,ok,h=>by
  show(D4 rs 17 p).length=_;rw[mj ok (by simp at h;omega),Dl (by have:=bP ok.r1 ok.c1;simp at h;omega)];rfl
 |f+1,p,ok,h=>by
  rw[mB hg ok,jA,<- mR hg ok]
  congr 1
  refine List.map_congr_left λs hs=>?_;obtain⟨q,hq,_,hps,e,_⟩:=fb hs;rw[J_,eV (g:=CN rs) λp' hp'=>?_,e];obtain⟨ok',lt⟩:=dY hg ok hs hp';exact B6 hg f p' ok' (by push_cast at h;omega)
theorem ce{rs:Yaa}(hg:dE rs){p:TR}(ok:dW p):(RT rs p).length=CN rs p:=B6 hg 17 p ok (by have:=ok.k16;push_cast;omega)
theorem wo{α β:Type}{f:α->List β}{l:List α}{i:Nat}{x:α}(hx:l[i]?=some x){j:Nat}(hj:j<(f x).length):(l.flatMap f)[((l.take i).map λy=>(f y).length).sum+j]?=(f x)[j]?:=by
 obtain⟨hi,e⟩:=J8.mp hx;have e2:l=l.take i++x::l.drop (i+1):=by rw[<- e,<- List.drop_eq_getElem_cons hi,List.take_append_drop]
 have e3:l.flatMap f=(l.take i).flatMap f++(f x++(l.drop (i+1)).flatMap f):=by
  conv=>lhs;rw[e2]
  rw[List.flatMap_append,List.flatMap_cons]
 rw[e3,<- jA,Ks ⋯,Nat.add_sub_cancel_left,Kt hj]
theorem rV{α:Type}(g:α->Nat):∀(l:List α) (i:Nat) (x:α),l[i]?=some x->((l.take (i+1)).map g).sum=((l.take i).map g).sum+g x:=by
 intro l i x h;rw[List.take_add_one,h,Kj,List.sum_append];simp
theorem ir{F:TR->List bD}{p:TR}(k:Nat):(bt F [p])[k]?=(F p)[k]?.map λt=>[t]:=by
 unfold bt bt;have:((F p).flatMap λt=>([[]]:List (List bD)).map (t :: ·))=(F p).map λt=>[t]:=by
  induction F p with
  |nil=>rfl
  |cons t l ih=>rw[List.flatMap_cons,ih];rfl
 rw[this,Ka]
theorem xJ{α β:Type}{f:α->List β}{n:Nat}(hn:∀x,(f x).length=n):∀{l:List α} {k:Nat} {x:α} {y:β},l[k/n]?=some x->(f x)[k%n]?=some y->(l.flatMap f)[k]?=some y:=by
 intro l k x y h1 h2
 by_cases h0:n=0
 ·subst h0
  have:=hn x;rw[KP.mp this]at h2;simp at h2
 have hs:((l.take (k/n)).map λy=>(f y).length).sum=k/n*n:=by
  have hl:(l.take (k/n)).length=k/n:=by rw[KM];have:=(J8.mp h1).1;omega
  have:∀m:List α,(m.map λy=>(f y).length).sum=m.length*n:=by
   intro m
   induction m with
   |nil=>simp
   |cons z m ih=>rw[KC,List.sum_cons,ih,hn,Ki,Nat.add_mul];omega
  rw[this,hl]
 have hj:k%n<(f x).length:=by rw[hn];exact Nat.mod_lt _ ⋯
 have:=wo h1 hj;rw[hs,h2]at this;rw[show k/n*n+k%n=k by rw[Nat.mul_comm];exact Nat.div_add_mod k n]at this;exact this
theorem rH{F:TR->List bD}{p1 p2:TR}{k:Nat}{t1 t2:bD}(h1:(F p1)[k/(F p2).length]?=some t1)(h2:(F p2)[k%(F p2).length]?=some t2):(bt F [p1,p2])[k]?=some [t1,t2]:=by
 show((F p1).flatMap λt=>(bt F [p2]).map (t :: ·))[k]?=_;have hl:(bt F [p2]).length=(F p2).length:=by
  rw[eV (g:=λp=>(F p).length) λ_ _=>rfl];simp[aJ]
 refine xJ (n:=(F p2).length) (λt=>by rw[J_,hl]) h1 ?_;rw[Ka,ir,h2];rfl
theorem BS{rs:Yaa}(hg:dE rs){p:TR}(ok:dW p){i:Nat}{s:uy}(hs:(aN rs p)[i]?=some s){j:Nat}{ts:List bD}(hj:(bt (RT rs) s.2.1)[j]?=some ts):(RT rs p)[(((aN rs p).take i).map λs=>s.2.2).sum+j]?=some (ve (s.1:Int) ts):=by
 rw[mB hg ok];have hl:∀s∈aN rs p,((bt (RT rs) s.2.1).map (ve (s.1:Int))).length=s.2.2:=λs hs=>by
  obtain⟨q,hq,_,hps,e,_⟩:=fb hs;rw[J_,eV (g:=CN rs) λp' hp'=>ce hg (dY hg ok hs hp').1,e]
 have e:(((aN rs p).take i).map λs=>s.2.2)=((aN rs p).take i).map λs=>((bt (RT rs) s.2.1).map (ve (s.1:Int))).length:=List.map_congr_left λs hs=>(hl s (List.mem_of_mem_take hs)).symm;rw[e,wo (f:=λs:uy=>(bt (RT rs) s.2.1).map (ve (s.1:Int))) hs (by rw[J_];exact(J8.mp hj).1),Ka,hj]
 rfl
noncomputable def cv(H0 H:Hp)(l:Addr)(ss:List uy):Prop:=H0 l=none/\∃ts:List Addr,H l=some (.lst (ts.map V.ref))/\ts.length=ss.length/\∀(i:Nat) t s,ts[i]?=some t->ss[i]?=some s->∃rl,(H0 rl=none/\rl≠l)/\H t=some (.tup [.int (s.1:Int),.ref rl,.int (s.2.2:Int)])/\qw H rl s.2.1
theorem cv.kp{H0 H H':Hp}{l:Addr}{ms:List uy}(h:cv H0 H l ms)(s:Kp H H'):cv H0 H' l ms:=by
 obtain⟨h0,ts,h1,h2,h3⟩:=h;refine⟨h0,ts,s.lst h1,h2,λi t x e1 e2=>?_⟩;obtain⟨rl,hn,e,hT⟩:=h3 i t x e1 e2;exact⟨rl,hn,s.tup e,hT.kp s⟩
theorem cv.nil{H0 H:Hp}{l:Addr}(h0:H0 l=none)(h:H l=some (.lst [])):cv H0 H l []:=⟨h0,[],h,rfl,λi a ps e=>by simp at e⟩
theorem cv.app{H0 H:Hp}{l t rl:Addr}{ms:List uy}{x:uy}{xs:List V}(h:cv H0 H l ms)(hx:H l=some (.lst xs))(ht:H t=some (.tup [.int (x.1:Int),.ref rl,.int (x.2.2:Int)]))(hT:qw H rl x.2.1)(hn:H0 rl=none/\rl≠l):cv H0 (ax H l (.lst (xs++[V.ref t]))) l (ms++[x]):=by
 obtain⟨h0,ts,h1,h2,h3⟩:=h;rw[hx]at h1;cases h1;have hold:∀t' o,H t'=some (.tup o)->ax H l (.lst (ts.map V.ref++[V.ref t])) t'=some (.tup o):=λt' o e=>by rw[ao (λz=>by rw[z,hx]at e;cases e)];exact e
 refine⟨h0,ts++[t],by rw[ac,Kj];rfl,by rw[Ku,Ku,h2];rfl,λi b y e1 e2=>?_⟩
 by_cases hi:i<ts.length
 ·rw[Kt hi]at e1
  rw[Kt ⋯]at e2;obtain⟨rl',hn',e,hT'⟩:=h3 i b y e1 e2;exact⟨rl',hn',hold _ _ e,hT'.put hn'.2 ⟨_,hx⟩⟩
 ·have hi2:i=ts.length:=by
   have:=(J8.mp e1).1;simp at this;omega
  subst hi2;rw[Ks (Kv _),Nat.sub_self]at e1;rw[h2,Ks (Kv _),Nat.sub_self]at e2;cases e1;cases e2
  exact⟨rl,hn,hold _ _ ht,hT.put hn.2 ⟨_,hx⟩⟩
theorem cv.len{H0 H:Hp}{l:Addr}{ms:List uy}{xs:List V}(h:cv H0 H l ms)(hx:H l=some (.lst xs)):xs.length=ms.length:=by
 obtain⟨_,ts,h1,h2,_⟩:=h;rw[hx]at h1;cases h1;rw[J_,h2]
noncomputable def FO(H:Hp)(l:Addr)(ps:List TR):Prop:=∃(bs:La) (o:Obj),H l=some (.frz o (.lst (bs.map V.ref)))/\bs.length=ps.length/\∀(i:Nat) b p,bs[i]?=some b->ps[i]?=some p->H b=some (.tup (cL p))
noncomputable def jH(H:Hp)(l:Addr)(ss:List uy):Prop:=∃(ts:La) (o:Obj),H l=some (.frz o (.lst (ts.map V.ref)))/\ts.length=ss.length/\∀(i:Nat) t s,ts[i]?=some t->ss[i]?=some s->∃rl,H t=some (.tup [.int (s.1:Int),.ref rl,.int (s.2.2:Int)])/\FO H rl s.2.1
noncomputable def u5(H H':Hp):Prop:=(∀x o u,H x=some (.frz o u)->H' x=some (.frz o u))/\∀x xs,H x=some (.tup xs)->H' x=some (.tup xs)
theorem Kp.z{H H':Hp}(s:Kp H H'):u5 H H':=⟨λx o u e=>s _ _ id e,λx xs e=>s _ _ id e⟩
theorem u5.trans{H H1 H2:Hp}(a:u5 H H1)(b:u5 H1 H2):u5 H H2:=⟨λx o u e=>b.1 x o u (a.1 x o u e),λx xs e=>b.2 x xs (a.2 x xs e)⟩
theorem u5.put{H:Hp}{l:Addr}{xs:List V}{o:HO}(h:H l=some (.lst xs)):u5 H (ax H l o):=⟨λx o u e=>by rw[ao (λz=>by rw[z,h]at e;cases e)];exact e,λx ys e=>by rw[ao (λz=>by rw[z,h]at e;cases e)];exact e⟩
theorem u5.frz{H:Hp}{ls:La}{os:Addr->Obj}:u5 H (cM H ls os):=⟨λx o u e=>f_ e (.inr λxs z=>by cases z),λx xs e=>f_ e (.inr λxs z=>by cases z)⟩
theorem FO.kz{H H':Hp}{l:Addr}{ps:List TR}(h:FO H l ps)(s:u5 H H'):FO H' l ps:=by
 obtain⟨bs,o,h1,h2,h3⟩:=h;exact⟨bs,o,s.1 _ _ _ h1,h2,λi b p e1 e2=>s.2 _ _ (h3 i b p e1 e2)⟩
theorem jH.kz{H H':Hp}{l:Addr}{ms:List uy}(h:jH H l ms)(s:u5 H H'):jH H' l ms:=by
 obtain⟨ts,o,h1,h2,h3⟩:=h;refine⟨ts,o,s.1 _ _ _ h1,h2,λi t x e1 e2=>?_⟩;obtain⟨rl,e,hT⟩:=h3 i t x e1 e2;exact⟨rl,s.2 _ _ e,hT.kz s⟩
noncomputable def Bu(H:Hp)(t:Addr):Option Addr:=match H t with
 |some (.tup [_,.ref rl,_])=>some rl
 |_=>none
theorem cv.known{H0 H:Hp}{l:Addr}{ss:List uy}(h:cv H0 H l ss):∃ls:List Addr,(∀x∈ls,∃xs,H x=some (.lst xs))/\(∀x∈ls,H0 x=none)/\∀os,jH (cM H ls os) l ss:=by
 obtain⟨h0,ts,h1,h2,h3⟩:=h;have mem:∀x∈ts.filterMap (Bu H),(∃xs,H x=some (.lst xs))/\H0 x=none:=λx hx=>by
  obtain⟨t,ht,e⟩:=List.mem_filterMap.mp hx;obtain⟨i,hi⟩:=List.getElem?_of_mem ht;obtain⟨rl,hn,e2,hT⟩:=h3 i t (ss[i]'(by rw[<- h2];exact(J8.mp hi).1)) hi (J7 _);unfold Bu at e;rw[e2]at e;cases e;obtain⟨bs,hb,_⟩:=hT;exact⟨⟨_,hb⟩,hn.1⟩
 refine⟨l::ts.filterMap (Bu H),λx hx=>?_,λx hx=>?_,λos=>?_⟩
 ·rcases Km.mp hx with rfl | hx
  ·exact⟨_,h1⟩
  ·exact(mem x hx).1
 ·rcases Km.mp hx with rfl | hx
  ·exact h0
  ·exact(mem x hx).2
 ·refine⟨ts,_,xx h1 (List.mem_cons_self ..),h2,λi t s e1 e2=>?_⟩
  obtain⟨rl,hn,e,hT⟩:=h3 i t s e1 e2;have hm:rl∈ts.filterMap (Bu H):=List.mem_filterMap.mpr ⟨t,Kb e1,by unfold Bu;rw[e]⟩;obtain⟨bs,hb,hl,hb3⟩:=hT;exact⟨rl,u5.frz.2 _ _ e,bs,_,xx hb (Kn _ hm),hl,λi b p x1 x2=>u5.frz.2 _ _ (hb3 i b p x1 x2)⟩
noncomputable def fz(H:Hp)(rs:Yaa)(m1:List (List cS×V)):Prop:=∀(p:TR) v,cg m1 (cY p)=some v->∃l,v=.ref l/\jH H l (aN rs p)
theorem fz.kz{H H':Hp}{rs:Yaa}{m1:List (List cS×V)}(h:fz H rs m1)(s:u5 H H'):fz H' rs m1:=λp v e=>by
 obtain⟨l,e2,h2⟩:=h p v e;exact⟨l,e2,h2.kz s⟩
theorem fz.kp{H H':Hp}{rs:Yaa}{m1:List (List cS×V)}(h:fz H rs m1)(s:Kp H H'):fz H' rs m1:=h.kz s.z
theorem nA{rs:Yaa}(hg:dE rs){p:TR}(ok:dW p)(h24:rs.length<=24):(aN rs p).length<=1800:=by
 unfold aN
 split
 ·simp
 ·rw[jA]
  refine KD (iW _ 75 _ λi hi=>?_) ?_
  ·obtain⟨q,hq,_⟩:=eZ hi
   obtain⟨h4,hc,_⟩:=hg q (Kb hq);unfold cJ;rw[hq];exact KD (List.length_filterMap_le _ _) (iP h4 hc ok.r1 ok.c1 ok.r6 ok.c6 ok.k16)
  ·have:=rC (tx p.1) rs
   omega
noncomputable def Ga(g d1 d2:Addr):List (Str×V):=[("grammar",.ref g),("steps",.ref d1),("totals",.ref d2)]
structure qR(st:K7)(rs:Yaa)(m:Nat)(p:TR):Prop where
 nm:tx p.1∈(aY (tx st) rs).map (·.1)
 r1:1<=p.2.1
 rm:p.2.1<=m
 c1:1<=p.2.2.1
 cm:p.2.2.1<=m
 k0:-8<=p.2.2.2
 k16:p.2.2.2<=16
theorem qA{α:Type}[DecidableEq α]:∀{l L:List α},l.Nodup->(∀x∈l,x∈L)->l.length<=L.length
 | [],_,_,_=>Kw _
 |x::l,L,hn,hs=>by
  have hx:x∈L:=hs x List.mem_cons_self;rw[List.nodup_cons]at hn;have:=qA (l:=l) (L:=L.erase x) hn.2 λy hy=>(List.mem_erase_of_ne λe=>hn.1 (by rw[<- e];exact hy)).mpr (hs y (Kn _ hy));rw[List.length_erase_of_mem hx]at this;have:=List.length_pos_of_mem hx;rw[Ki];omega
theorem gD{α β:Type}{f:α->List β}{n:Nat}:∀{l:List α},(∀x,(f x).length=n)->(l.flatMap f).length=l.length*n
 | [],_=>by simp
 |x::l,h=>by rw[List.flatMap_cons,Ku,h x,gD (l:=l) h,Ki,Nat.add_mul];omega
noncomputable def A0(zs:Le):List (List cS):=zs.flatMap λz=>(List.range 7).flatMap fun(r:Nat)=>(List.range 7).flatMap fun(c:Nat)=>(List.range 25).map fun(j:Nat)=>[.inr z,.inl (r:Int),.inl (c:Int),.inl ((j:Int)-8)]
theorem Ct(zs:Le):(A0 zs).length=zs.length*(7*(7*25)):=
 gD λz=>(gD λr=>(gD λc=>by rw[J_,List.length_range]).trans (by rw[List.length_range])).trans (by rw[List.length_range])
theorem Ci{st:K7}{rs:Yaa}{m:Nat}{p:TR}(d:qR st rs m p)(h6:m<=6):cY p∈A0 ((aY (tx st) rs).map (·.1)):=by
 have:=d.rm;have:=d.cm;have:=d.k0;have:=d.k16;refine List.mem_flatMap.mpr ⟨_,d.nm,List.mem_flatMap.mpr ⟨p.2.1,List.mem_range.mpr ⋯,List.mem_flatMap.mpr ⟨p.2.2.1,List.mem_range.mpr ⋯,KQ.mpr ⟨(p.2.2.2+8).toNat,List.mem_range.mpr ⋯,?_⟩⟩⟩⟩;unfold cY;rw[show(((p.2.2.2+8).toNat:Int)-8)=p.2.2.2 by omega]
structure oZ(st:K7)(rs:Yaa)(m:Nat)(m1 m2:List (List cS×V)):Prop where
 n1:(m1.map (·.1)).Nodup
 n2:(m2.map (·.1)).Nodup
 k1:∀k∈m1.map (·.1),k∈A0 ((aY (tx st) rs).map (·.1))
 k2:∀k∈m2.map (·.1),k∈A0 ((aY (tx st) rs).map (·.1))
 ok:∀p:TR,(cg m1 (cY p)).isSome=true->cg m2 (cY p)=some (.int (CN rs p:Nat))
theorem oZ.len{st:K7}{rs:Yaa}{m:Nat}{m1 m2:List (List cS×V)}(h:oZ st rs m m1 m2)(hz:(aY (tx st) rs).length<=100):m1.length<sizeLine/\m2.length<sizeLine:=by
 have h1:=qA h.n1 h.k1;have h2:=qA h.n2 h.k2;rw[Ct,J_,J_]at h1 h2;exact⟨bf ⋯,bf ⋯⟩
structure gv(R:RC)(CG CT:Addr)(H:Hp)(a dx g dg d1 d2:Addr)(sg st:K7)(as:La)(rs:Yaa)(m:Nat):Prop where
 at_:H a=some (.ins CT dx (Ga g d1 d2))
 ne:d1≠d2
 gr:dC R H CG dg g sg st as rs
 gc:dE rs
 gt:∀q∈rs,0<=q.2.t
 sm:∀p:TR,p.2.1<=m->p.2.2.1<=m->p.2.2.2<=7->CN rs p<2 ^ 64
 m6:m<=6
 n24:rs.length<=24
 nz:(aY (tx st) rs).length<=100
 mm:∃m1 m2,H d1=some (.dT m1)/\H d2=some (.dT m2)/\oZ st rs m m1 m2/\fz H rs m1
section
variable {R:RC}{CG CT:Addr}{H H':Hp}{a dx g dg d1 d2:Addr}{sg st:K7}{as:La}{rs:Yaa}{m:Nat}
theorem gv.kp(e:gv R CG CT H a dx g dg d1 d2 sg st as rs m)(s:bV d1 d2 H H'):Kp H H':=λx o ho hx=>by
 obtain⟨m1,m2,h1,h2,_⟩:=e.mm;refine s x o (λz=>?_) (λz=>?_) hx
 ·rw[z,h1]at hx;cases hx;exact ho trivial
 ·rw[z,h2]at hx;cases hx;exact ho trivial
theorem gv.next(e:gv R CG CT H a dx g dg d1 d2 sg st as rs m)(s:bV d1 d2 H H')(mm:∃m1 m2,H' d1=some (.dT m1)/\H' d2=some (.dT m2)/\oZ st rs m m1 m2/\fz H' rs m1):gv R CG CT H' a dx g dg d1 d2 sg st as rs m:=
 ⟨(e.kp s).ins e.at_,e.ne,e.gr.kp (e.kp s),e.gc,e.gt,e.sm,e.m6,e.n24,e.nz,mm⟩
theorem gv.fresh(e:gv R CG CT H a dx g dg d1 d2 sg st as rs m)(s:bV d1 d2 H H')(mm:∃m1 m2,H' d1=some (.dT m1)/\H' d2=some (.dT m2)/\oZ st rs m m1 m2/\fz H' rs m1){x:Addr}(hx:H' x=none):H x=none:=by
 cases hh:H x with
 |none=>rfl
 |some o=>
  obtain⟨m1,m2,h1,h2,_⟩:=mm;have:=s x o (λz=>by rw[z,h1]at hx;cases hx) (λz=>by rw[z,h2]at hx;cases hx) hh;rw[this]at hx;cases hx
theorem gv.up(e:gv R CG CT H a dx g dg d1 d2 sg st as rs m)(s:az H H'):gv R CG CT H' a dx g dg d1 d2 sg st as rs m:=by
 obtain⟨m1,m2,h1,h2,h3,h4⟩:=e.mm;exact e.next (.of s) ⟨m1,m2,s _ _ h1,s _ _ h2,h3,h4.kp (.of s)⟩
end
theorem Bh{st:K7}{rs:Yaa}{q:Nat×RV}(hq:q∈rs)(h4:q.1<4){z:K7}(hz:z∈bi q.1 q.2):tx z∈(aY (tx st) rs).map (·.1):=
 (qL _ _ _).mpr (.inr ⟨(tx q.2.n,(bi q.1 q.2).map tx),by unfold FS;exact List.mem_map_of_mem (f:=λr:Nat×RV=>(tx r.2.n,(bi r.1 r.2).map tx)) hq,.inr (List.mem_map_of_mem hz)⟩)
theorem qR.part{st:K7}{rs:Yaa}{m:Nat}{p p':TR}{q:Nat×RV}{ps:List TR}(d:qR st rs m p)(gc:dE rs)(hq:q∈rs)(k1:1<=p.2.2.2)(h:ps∈cr q p.2.1 p.2.2.1 p.2.2.2)(hp:p'∈ps):qR st rs m p'/\p'.2.2.2<p.2.2.2:=by
 obtain⟨h4,hc,hc9⟩:=gc q hq;have po:=jK h4 hc d.r1 d.c1 h hp;have:=d.rm;have:=d.cm;have:=d.k16;have:=po.rm;have:=po.cm;have lt:=po.lt;refine⟨⟨?_,po.r1,⋯,po.c1,⋯,?_,⋯⟩,lt⟩
 ·have mem:p'.1∈bi q.1 q.2:=by
   rcases dc h4 d.r1 d.c1 h with rfl | ⟨p2,rfl,e1,e2,e3⟩ | ⟨hk,z,f,sz,f1,f2,rfl⟩
   ·cases hp
   ·rw[J'.mp hp,e1]
    have:q.1=0\/q.1=1\/q.1=2\/q.1=3:=by omega
    rcases this with e | e | e | e
    ·exfalso
     unfold cr at h;rw[e]at h;simp only at h
     split at h
     ·simp at h
     ·simp at h
    ·rw[e];simp[bi]
    ·rw[e];simp[bi]
    ·rw[e];simp[bi]
   ·have hpk:bi q.1 q.2=[q.2.o1,q.2.o2]:=by rcases hk with e | e<;>rw[e]<;>rfl
    rw[hpk];rcases(show p'=_\/p'=_ by simpa using hp) with rfl | rfl<;>simp
  exact Bh hq h4 mem
 ·rcases po.ge with h | h<;>omega
noncomputable abbrev dI(st:K7)(rs:Yaa)(m:Nat)(H:Hp)(d1 d2:Addr):Prop:=∃m1 m2,H d1=some (.dT m1)/\H d2=some (.dT m2)/\oZ st rs m m1 m2/\fz H rs m1
inductive bo(R:RC)(CG CT CN_:Addr)(n:Nat)(vs:List V)(H:Hp)(Q:VK)(E:XK):Prop
 |mk (a dx g dg d1 d2 b:Addr) (sg st:K7) (as:La) (rs:Yaa) (m:Nat) (p:TR) (_:vs=[.ref a,.ref b]) (_:gv R CG CT H a dx g dg d1 d2 sg st as rs m) (_:H b=some (.tup (cL p))) (_:((qR st rs m p/\0<n/\p.2.2.2<(n:Int)/\(∀H',bV d1 d2 H H'->dI st rs m H' d1 d2->Q (.int (CN rs p:Nat)) H'))\/(0<n/\tx p.1∉(aY (tx st) rs).map (·.1)/\E (.ref CN_) none H)))
inductive bR(R:RC)(CG CT CN_:Addr)(n:Nat)(vs:List V)(H:Hp)(Q:VK)(E:XK):Prop
 |mk (a dx g dg d1 d2 b:Addr) (sg st:K7) (as:La) (rs:Yaa) (m:Nat) (p:TR) (_:vs=[.ref a,.ref b]) (_:gv R CG CT H a dx g dg d1 d2 sg st as rs m) (_:H b=some (.tup (cL p))) (_:((qR st rs m p/\0<n/\p.2.2.2<(n:Int)/\(∀l H',bV d1 d2 H H'->dI st rs m H' d1 d2->(∃m2,H' d2=some (.dT m2)/\cg m2 (cY p)=some (.int (CN rs p:Nat)))->jH H' l (aN rs p)->Q (.ref l) H'))\/(0<n/\tx p.1∉(aY (tx st) rs).map (·.1)/\E (.ref CN_) none H)))
inductive eO(R:RC)(CG CT CN_:Addr)(n:Nat)(vs:List V)(H:Hp)(Q:VK)(E:XK):Prop
 |mk (a dx g dg d1 d2 b:Addr) (sg st:K7) (as:La) (rs:Yaa) (m:Nat) (p:TR) (_:vs=[.ref a,.ref b]) (_:gv R CG CT H a dx g dg d1 d2 sg st as rs m) (_:H b=some (.tup (cL p))) (_:((qR st rs m p/\0<n/\p.2.2.2<(n:Int)/\(∀l H',bV d1 d2 H H'->dI st rs m H' d1 d2->cv H H' l (aN rs p)->Q (.ref l) H'))\/(0<n/\tx p.1∉(aY (tx st) rs).map (·.1)/\E (.ref CN_) none H)))
inductive cD(R:RC)(CG CT:Addr)(n:Nat)(vs:List V)(H:Hp)(Q:VK)(_E:XK):Prop
 |mk (a dx g dg d1 d2 l:Addr) (sg st:K7) (as:La) (rs:Yaa) (m:Nat) (ps:List TR) (_:vs=[.ref a,.ref l]) (_:gv R CG CT H a dx g dg d1 d2 sg st as rs m) (_:qw H l ps) (_:(∀p∈ps,qR st rs m p/\0<n/\p.2.2.2<(n:Int))) (_:ps.length<=2) (_:(∀p1 p2,ps=[p1,p2]->p1.2.2.2<=7\/p2.2.2.2<=7)) (_:∀H',bV d1 d2 H H'->dI st rs m H' d1 d2->Q (.int (aJ (CN rs) ps:Nat)) H')
theorem sK{c:TT}{t u:TS}{D:iK}{σ:St}{H:Hp}(h:∀t' u',t'=t->u'=u->B3 c t' u' D σ H):B3 c t u D σ H:=h t u rfl rfl
theorem qR.row{st:K7}{rs:Yaa}{m:Nat}{p:TR}(d:qR st rs m p)(h6:m<=6):dW p:=⟨d.r1,by have:=d.rm;omega,d.c1,by have:=d.cm;omega,d.k16⟩
noncomputable abbrev gb:Stmt:=eQ 41 0
inductive eS(K:W.Frag)(vs:List V)(H:Hp)(Q:VK)(_E:XK):Prop
 |mk (a C dx g:Addr) (_:vs=[.ref a,.ref g]) (_:H a=some (.ins C dx [])) (_:lW K C) (_:(aq K C "grammar"/\aq K C "steps"/\aq K C "totals")) (_:∀d1 d2 H',H d1=none->H d2=none->d1≠d2->H' a=some (.ins C dx (Ga g d1 d2))->H' d1=some (.dT [])->H' d2=some (.dT [])->bQ a H H'->Q .non H')
theorem xp:av ["self","grammar"] ["self","grammar"] (ai gb):=by walk_at "c"
theorem xY{f:Addr}{fd:Lc}(F:cy K "__init__" "TreeRows.__init__" gb f fd)(nb:NB mg):aQ P w K mg base bG 1 f fd ["self","grammar"] (eS K):=by
 have sc:=xp;walk_at "f"
 ·obtain⟨a,C,dx,g,rfl,_⟩:=h;rfl
 ·obtain⟨a,C,dx,g,rfl,ha,cl,⟨n1,n2,n3⟩,q⟩:=h
  refine⟨_,(af (c8 (ak 0) (ak 1) rfl)
   (af (c8 (ak 0) vW rfl)
   (ah (c8 (ak 0) vW rfl)))),?_⟩
  walk_at "n";refine⟨C,dx,_,ha,cl,n1,by simp,h1 _ _ ?_⟩;clear h1;have sx2:bQ a H (ax H a (.ins C dx [("grammar",.ref g)])):=(bQ.of (az.refl _)).put;have ea2:ax H a (.ins C dx [("grammar",.ref g)]) a=some (.ins C dx [("grammar",.ref g)]):=ac;change Aa _ _ _ _ (ax H a (.ins C dx [("grammar",.ref g)]));generalize ax H a (.ins C dx [("grammar",.ref g)])=H2 at sx2 ea2 ⊢;walk_at "n";intro d1 hd1;have hda:d1≠a:=λe=>by rw[e,ea2]at hd1;cases hd1
  have t1:¬ (("grammar":Str)="steps"):=by decide +kernel
  have e3:cI "steps" (V.ref d1) [(("grammar":Str),V.ref g)]=[(("grammar":Str),V.ref g),(("steps":Str),V.ref d1)]:=by simp only[cI,if_neg t1]
  refine⟨C,dx,_,ae hd1 _ _ ea2,cl,n2,by simp,?_⟩;rw[e3];refine h1 _ _ ?_;clear h1;have f1:H d1=none:=by
   cases e:H d1 with
   |none=>rfl
   |some u=>rw[sx2 _ _ hda e]at hd1;cases hd1
  have sx3:bQ a H (ax (ax H2 d1 (.dT [])) a (.ins C dx [("grammar",.ref g),("steps",.ref d1)])):=(sx2.then (ae hd1)).put;have ea3:ax (ax H2 d1 (.dT [])) a (.ins C dx [("grammar",.ref g),("steps",.ref d1)]) a=some (.ins C dx [("grammar",.ref g),("steps",.ref d1)]):=ac;have ed3:ax (ax H2 d1 (.dT [])) a (.ins C dx [("grammar",.ref g),("steps",.ref d1)]) d1=some (.dT []):=by rw[ao hda,ac]
  generalize ax (ax H2 d1 (.dT [])) a (.ins C dx [("grammar",.ref g),("steps",.ref d1)])=H3 at sx3 ea3 ed3 ⊢;walk_at "wp";intro d2 hd2;have hda2:d2≠a:=λe=>by rw[e,ea3]at hd2;cases hd2
  have hdd:d1≠d2:=λe=>by rw[<- e,ed3]at hd2;cases hd2
  have t2:¬ (("grammar":Str)="totals"):=by decide +kernel
  have t3:¬ (("steps":Str)="totals"):=by decide +kernel
  have e4:cI "totals" (V.ref d2) [(("grammar":Str),V.ref g),(("steps":Str),V.ref d1)]=Ga g d1 d2:=by unfold Ga;simp only[cI,if_neg t2,if_neg t3]
  refine⟨C,dx,_,ae hd2 _ _ ea3,cl,n3,by simp,?_⟩;rw[e4];have f2:H d2=none:=by
   cases e:H d2 with
   |none=>rfl
   |some u=>rw[sx3 _ _ hda2 e]at hd2;cases hd2
  exact q d1 d2 _ f1 f2 hdd ac (by rw[ao hda,ao hdd];exact ed3) (by rw[ao hda2,ac]) ((sx3.then (ae hd2)).put)
theorem vm(f:TR->Nat)(ps:List TR)(p:TR):aJ f (ps++[p])=aJ f ps*f p:=by
 unfold aJ;rw[List.foldl_append];rfl
noncomputable abbrev bj:Stmt:=eQ 41 4
theorem kN:av ["self","rows","many","row"] ["self","rows"] (ai bj):=by walk_at "c"
theorem fO{R:RC}{f CG CT CN_:Addr}{fd:Lc}{n:Nat}(F:cy K "many_together" "TreeRows.many_together" bj f fd)(nb:NB mg)(yaf:bX P w K mg base (bz P w) (4*n+4) CT "many_in" ["self","row"] (bo R CG CT CN_ n)) :
  aQ P w K mg base (bz P w) (4*n+5) f fd ["self","rows"] (cD R CG CT n):=by
 have sc:=kN;walk_at "x"
 ·obtain⟨a,dx,g,dg,d1,d2,l,sg,st,as,rs,m,ps,rfl,_⟩:=h;rfl
 ·obtain⟨a,dx,g,dg,d1,d2,l,sg,st,as,rs,m,ps,rfl,te,⟨bs,hl,hbl,hbs⟩,hd,h2,h7,q⟩:=h
  have hu:=hr.units;refine⟨_,(af (aB (i:=2) sc.nd rfl (Or.inl rfl) aj)
   (af (bw PassesOwn.leaving rfl (cE (ak 1)) (ay (i:=3) sc.nd rfl (Or.inl rfl))
   (ah (bE (aH (bd.m0 jo) (ak 2) aj (aO _))
   (ah (aB (i:=2) sc.nd rfl (Or.inl rfl) (aw (bd.m1 fk) (ak 2) (bJ yaf (hr.mono ⋯) (aV λ_ _ _ h=>h) (ak 0) (aa (ak 3) ad)))))
   aM)))
   (ah (aE (ak 2))))),?_⟩
  walk_at "n";refine h1 _ _ ?_;walk_at "nc";refine⟨⟨_,aS.of hl⟩,?_⟩;refine dn (xs:=bs.map V.ref) (λi σ H'=>bV d1 d2 H H'/\i<=bs.length/\dI st rs m H' d1 d2/\∃x,σ=[some (V.ref a),some (V.ref l),some (V.int (aJ (CN rs) (ps.take i):Nat)),x]) ⟨λ_ _ _ _ e=>e,Kw _,te.mm,_,rfl⟩ (λi σ H' _ h=>aS.of ((te.kp h.1).lst hl)) ?_ ?_
  ·rintro i x σ H' hx ⟨sd,hi,mm,y,rfl⟩
   have hlt:i<bs.length:=by have:=(J8.mp hx).1;rwa [J_]at this
   rw[Ka,J7 hlt]at hx;cases hx;have hpi:ps[i]?=some (ps[i]'⋯):=J7 ⋯;have hb:=hbs i bs[i] _ (J7 hlt) hpi;obtain⟨dp,n0,pn⟩:=hd _ (Kf (show i<ps.length by omega));have hsn:aJ (CN rs) (ps.take (i+1))=aJ (CN rs) (ps.take i)*CN rs (ps[i]'⋯):=by rw[List.take_add_one,hpi];exact vm _ _ _
   have te':=te.next sd mm;walk_at "wp"
   by_cases h0:0<aJ (CN rs) (ps.take i)
   ·rw[if_pos ⋯]
    refine⟨dx,_,te'.at_,rfl,a,dx,g,dg,d1,d2,bs[i],sg,st,as,rs,m,_,rfl,te',(te.kp sd).tup hb,.inl ⟨dp,n0,pn,λH2 s2 mm2=>⟨_,rfl,?_,sd.trans s2,hlt,mm2,?_⟩⟩⟩
    ·have hi2:i=0\/i=1:=by omega
     rcases hi2 with rfl | rfl
     ·left;simp[aJ]
     ·obtain⟨p1,p2,rfl⟩:∃p1 p2,ps=[p1,p2]:=by
       match ps,h2,(show 1<ps.length by omega) with
       | [p1,p2],_,_=>exact⟨p1,p2,rfl⟩
      have dp1:=(hd p1 List.mem_cons_self).1;rcases h7 p1 p2 rfl with h | h
      ·left
       have:=te.sm p1 dp1.rm dp1.cm h;have e1:aJ (CN rs) (List.take 1 [p1,p2])=CN rs p1:=by show 1*CN rs p1=_;rw[Nat.one_mul]
       rw[e1];omega
      ·right
       have:CN rs p2<2 ^ 64:=te.sm p2 dp.rm dp.cm h;show _<((CN rs p2:Nat):Int)/\((CN rs p2:Nat):Int)<_;omega
    ·rw[hsn];push_cast;rfl
   ·rw[if_neg ⋯]
    refine⟨sd,hlt,mm,?_⟩;rw[hsn,show aJ (CN rs) (ps.take i)=0 by omega,Nat.zero_mul]
  ·rintro σ H' ⟨sd,_,mm,y,rfl⟩
   refine h1 _ _ ?_;walk_at "wp";rw[J_,hbl,KL];exact q H' sd mm
noncomputable abbrev b9:Stmt:=eQ 41 3
theorem o_:av ["self","row","numbers","size","steps","number","rows","many"] ["self","row"] (ai b9):=by walk_at "c"
theorem jW{R:RC}{f CG CT yaa:Addr}{fd:Lc}{n:Nat}{t1:Tok}(F:cy K "reckoned" "TreeRows.reckoned" b9 f fd)(nb:NB mg)(yah:mg "MOST"=some (.int 6 t1))(ct:fD K CT)(nt:aq K CT "grammar"/\aq K CT "steps"/\aq K CT "totals")
  (yai:eR P w K mg base bG 1 "fewest" ["size"] (ik K)) (yan:bX P w K mg base (bz P w) 1 CG "numbers_of" ["self","name"] (cq R CG yaa)) (yad:bX P w K mg base bG 1 CG "rule" ["self","k"] (b6 R CG)) (yap:oG P w K mg base bG 3 "part_rows" (k6 R))
  (ycs:bX P w K mg base (bz P w) (4*n+5) CT "many_together" ["self","rows"] (cD R CG CT n)) :
  aQ P w K mg base (bz P w) (4*n+6) f fd ["self","row"] (eO R CG CT yaa (n+1)):=by
 have sc:=o_;walk_at "x"
 ·obtain⟨a,dx,g,dg,d1,d2,b,sg,st,as,rs,m,p,rfl,_⟩:=h;rfl
 ·obtain⟨a,dx,g,dg,d1,d2,b,sg,st,as,rs,m,p,rfl,te,hb,cs⟩:=h
  have hu:=hr.units;refine⟨_,(af (aB (i:=2) sc.nd rfl (Or.inl rfl) (bJ yan (hr.mono ⋯) (aV λ_ _ _ h=>h) (bA (ak 0) rfl) (aa (aF aG (ak 1) aj (λ_ _=>rfl)) ad)))
   (af (aB (i:=3) sc.nd rfl (Or.inl rfl) (eG DW (ak 1) (fu aj) (fu aj)))
   (af (bE (PW.pt (lm (aH (bd.m0 jo) (aA (Am rfl) rfl nb.max FJ (aa (ak 3) ad)) (dG (v:=.int 6) rfl yah ⟨_,rfl⟩) (aO _)) (gO (aH (bd.m0 pw) (aF aG (ak 1) aj (λ_ _=>rfl)) (aI (CX:=bz P w) yai.lift (hr.mono ⋯) rfl bc (aa (ak 3) ad)) (aO _)))))
   (ah (aE (bH ad)))
   aM)
   (af (aB (i:=4) sc.nd rfl (Or.inl rfl) (bH ad))
   (af (bw PassesOwn.leaving rfl (cE (ak 2)) (ay (i:=5) sc.nd rfl (Or.inl rfl))
   (ah (bw PassesOwn.leaving rfl (cE (yw yap (hr.mono ⋯) ba (bJ yad (hr.mono ⋯) ba (bA (ak 0) rfl) (aa (ak 5) ad)) (aa (aF aG (ak 1) aj (λ_ _=>rfl)) (aa (aF aG (ak 1) aj (λ_ _=>rfl)) (aa (aF aG (ak 1) aj (λ_ _=>rfl)) ad))))) (ay (i:=6) sc.nd rfl (Or.inl rfl))
   (af (aB (i:=7) sc.nd rfl (Or.inl rfl) (bJ ycs (hr.mono ⋯) (aV λ_ _ _ h=>h) (ak 0) (aa (ak 6) ad)))
   (ah (bE (aH (bd.m0 jo) (ak 7) aj (aO _))
   (ah (bv (ic PySem.F.plainAttrs_list PySem.F.slot_list_append PySem.F.type_list_append dN (ak 4) (aa (aL (aa (ak 5) (aa (ak 6) (aa (ak 7) ad)))) ad))))
   aM))))))
   (ah (aE (ak 4)))))))),?_⟩
  walk_at "n";obtain⟨lk,pn_,tt,hga,_⟩:=id te.gr;refine⟨CT,dx,_,te.at_,ct.cl,nt.1,_,rfl,g,rfl,dg,_,hga,rfl,_,bh.of hb,_,rfl,g,dg,sg,st,as,rs,tx p.1,rfl,te.gr,?_,?_⟩
  rotate_left
  ·intro hnone
   rcases cs with⟨dp,_⟩ | ⟨_,nn,ex⟩
   ·obtain⟨y,hy,e⟩:=KQ.mp dp.nm
    rw[<- e,(yI hy).1]at hnone;cases hnone
   ·exact ex
  intro ns hns l1 H1 hl1 hL1 s1;rcases cs with⟨dp,_,pn,q⟩ | ⟨_,nn,ex⟩
  rotate_left
  ·rw[nS nn]at hns
   cases hns
  obtain⟨y,hy,ey⟩:=KQ.mp dp.nm;have hns':ns=bM (tx p.1) rs:=by
   have:=(yI hy).1;rw[ey,hns]at this;exact Option.some.inj this
  subst hns';have hix:∀i∈bM (tx p.1) rs,_:=λi hi=>eZ hi;have hixl:=rC (tx p.1) rs;have m6:=te.m6;have dr1:=dp.r1;have drm:=dp.rm;have dc1:=dp.c1;have dcm:=dp.cm;have dk:=dp.k16;refine h1 _ _ ?_;walk_at "nc";refine⟨_,bh.of (s1 _ _ hb),λps H2 hps s2=>h1 _ _ ?_⟩;clear h1;have hps:bh K H2 ps [V.int (p.2.1:Int),V.int (p.2.2.1:Int)]:=hps;have s02:=s1.trans s2;walk_at "n";refine⟨_,_,hps,?_⟩;rw[if_neg (by split<;>omega)];refine⟨_,bh.of (s02 _ _ hb),_,rfl,ps,p.2.1,p.2.2.1,rfl,hps,⋯,⋯,_,rfl,_,rfl,?_⟩
  by_cases hlow:p.2.2.2<fw p.2.1 p.2.2.1
  ·rw[if_pos hlow]
   exact⟨Kw _,λl hl=>q l _ (bV.of (s02.trans (ae hl))) (te.up (s02.trans (ae hl))).mm (by unfold aN;rw[if_pos hlow];exact cv.nil (s02.free hl) ac)⟩
  rw[if_neg hlow];refine h1 _ _ ?_;clear h1;have k1:1<=p.2.2.2:=by have:=bP dr1 dc1;omega
  walk_at "n";refine⟨Kw _,λls hls=>h1 _ _ ?_⟩;clear h1;have fls:H ls=none:=s02.free hls;have nl1:l1≠ls:=λe=>by rw[<- e,s2 _ _ hL1]at hls;cases hls
  have s03:=s02.trans (ae (o:=.lst []) hls);have e3:ax H2 ls (.lst []) ls=some (.lst []):=ac;have hL3:=ae (o:=.lst []) hls _ _ (s2 _ _ hL1);generalize ax H2 ls (.lst [])=H3 at s03 e3 hL3 ⊢;have hsT:aN rs p=(bM (tx p.1) rs).flatMap (cJ rs p):=by unfold aN;rw[if_neg hlow]
  walk_at "n";refine⟨⟨_,aS.of hL3⟩,?_⟩;refine dn (xs:=wy (bM (tx p.1) rs)) (λi σ H'=>bV d1 d2 H H'/\i<=(bM (tx p.1) rs).length/\dI st rs m H' d1 d2/\H' l1=some (.lst (wy (bM (tx p.1) rs)))/\cv H H' ls (((bM (tx p.1) rs).take i).flatMap (cJ rs p))/\∃x y z,σ=[some (V.ref a),some (V.ref b),some (V.ref l1),some (V.ref ps),some (V.ref ls),x,y,z]) ⟨.of s03,Kw _,(te.up s03).mm,hL3,cv.nil fls e3,_,_,_,rfl⟩ (λi σ H' _ h=>aS.of h.2.2.2.1) ?_ ?_
  ·rintro i x σ H4 hx ⟨sd,hi,mm,hL4,hst,x1,y1,z1,rfl⟩
   have hlt:i<(bM (tx p.1) rs).length:=by have:=(J8.mp hx).1;rw[wy,J_]at this;exact this
   rw[wy,Ka,J7 hlt]at hx;cases hx;obtain⟨qr,hqr,hqn⟩:=hix _ (Kf hlt);have hsn:((bM (tx p.1) rs).take (i+1)).flatMap (cJ rs p)=((bM (tx p.1) rs).take i).flatMap (cJ rs p)++cJ rs p ((bM (tx p.1) rs)[i]'hlt):=by
    rw[List.take_add_one,J7 hlt,List.flatMap_append];simp
   have hbnd:(((bM (tx p.1) rs).take i).flatMap (cJ rs p)).length<=75*i:=by
    rw[jA];refine KD (iW _ 75 _ λj hj=>?_) (by rw[KM];omega);obtain⟨qj,hqj,_⟩:=eZ (List.mem_of_mem_take hj);obtain⟨j4,jc,_⟩:=te.gc qj (Kb hqj);unfold cJ;rw[hqj];exact KD (List.length_filterMap_le _ _) (iP j4 jc dr1 dc1 ⋯ ⋯ dk)
   generalize((bM (tx p.1) rs).take i).flatMap (cJ rs p)=ms at hst hsn hbnd;generalize(bM (tx p.1) rs)[i]'hlt=num at hqr hsn;have te4:=te.next sd mm;obtain⟨lk4,pn4,tt4,hg4,hk4,hR4,_⟩:=id te4.gr;have hbn:num<as.length:=by rw[hR4.1];exact(J8.mp hqr).1
   have hqm:qr∈rs:=Kb hqr;obtain⟨q4,qc,qc9⟩:=te.gc qr hqm;have hra:=hR4.2 num _ qr (J7 hbn) hqr;have hb4:=(te.kp sd).tup hb;walk_at "wp";refine⟨CT,dx,_,te4.at_,ct.cl,nt.1,_,rfl,g,rfl,dg,_,hg4,rfl,g,dg,sg,st,as,rs,num,as[num],rfl,te4.gr,J7 hbn,?_⟩;refine Em hb4 q4 hra dr1 ⋯ dc1 ⋯ dk k1 qc qc9 (te.gt qr hqm) λl2 H5 hl2 hT5 s5=>?_;have hSq:cJ rs p num=(cr qr p.2.1 p.2.2.1 p.2.2.2).filterMap λps=>if 0<aJ (CN rs) ps then some (num,ps,aJ (CN rs) ps) else none:=by unfold cJ;rw[hqr]
   have hprl:=iP q4 qc dr1 dc1 (by omega:p.2.1<=6) (by omega:p.2.2.1<=6) dk;have hpc:∀ps∈cr qr p.2.1 p.2.2.1 p.2.2.2,(∀p'∈ps,qR st rs m p'/\0<n/\p'.2.2.2<(n:Int))/\ps.length<=2/\∀p1 p2,ps=[p1,p2]->p1.2.2.2<=7\/p2.2.2.2<=7:=λps hps=>by
    refine⟨λp' hp'=>?_,?_⟩
    ·obtain⟨d',lt'⟩:=dp.part te.gc hqm k1 hps hp'
     exact⟨d',by push_cast at pn;omega,by push_cast at pn;omega⟩
    ·rcases dc q4 dr1 dc1 hps with rfl | ⟨p',rfl,_⟩ | ⟨_,z,f,sz,f1,f2,rfl⟩
     ·exact⟨by simp,λp1 p2 e=>by cases e⟩
     ·exact⟨by simp,λp1 p2 e=>by cases e⟩
     ·refine⟨by simp,λp1 p2 e=>?_⟩
      cases e;show f<=7\/p.2.2.2-qr.2.c-f<=7;omega
   have hTT:=hT5;change fA H4 H5 l2 (cr qr p.2.1 p.2.2.1 p.2.2.2) at hTT;clear hT5;obtain⟨rw_,hrw,hrl,hre⟩:=hTT;generalize cr qr p.2.1 p.2.2.1 p.2.2.2=pss at hSq hprl hpc hrl hre;have hls4:∃xs,H4 ls=some (.lst xs):=let ⟨_,ts,h,_⟩:=hst;⟨_,h⟩
   have nls:l2≠ls:=λe=>by obtain⟨xs,h⟩:=hls4;rw[<- e,hl2]at h;cases h
   refine⟨l2,rfl,⟨_,aS.of hrw⟩,?_⟩;refine dn (xs:=rw_.map V.ref) (λj σ H'=>bV d1 d2 H H'/\j<=rw_.length/\dI st rs m H' d1 d2/\H' l1=some (.lst (wy (bM (tx p.1) rs)))/\H' l2=some (.lst (rw_.map V.ref))/\(∀(i:Nat) a ps,rw_[i]?=some a->pss[i]?=some ps->qw H' a ps)/\cv H H' ls (ms++(pss.take j).filterMap λps=>if 0<aJ (CN rs) ps then some (num,ps,aJ (CN rs) ps) else none)/\∃y z,σ=[some (V.ref a),some (V.ref b),some (V.ref l1),some (V.ref ps),some (V.ref ls),some (V.int (num:Int)),y,z]) ⟨sd.trans (.of s5),Kw _,(te4.up s5).mm,s5 _ _ hL4,hrw,λi a ps e1 e2=>(hre i a ps e1 e2).2,by rw[K2];simpa using hst.kp (.of s5),_,_,rfl⟩ (λj σ H' _ h=>aS.of h.2.2.2.2.1) ?_ ?_
   ·rintro j x σ H6 hx ⟨sd6,hj,mm6,hL6,hr6,hre6,hst6,y2,z2,rfl⟩
    have hlt6:j<rw_.length:=by have:=(J8.mp hx).1;rwa [J_]at this
    rw[Ka,J7 hlt6]at hx;cases hx;have hpj:pss[j]?=some (pss[j]'⋯):=J7 ⋯;have hTr:=hre6 j _ _ (J7 hlt6) hpj;obtain⟨pc1,pc2,pc3⟩:=hpc _ (Kf (show j<pss.length by omega));have hfr:=λi a ps e1 e2=>(hre i a ps e1 e2).1;have te6:=te.next sd6 mm6;have hfl:((pss.take j).filterMap λps=>if 0<aJ (CN rs) ps then some (num,ps,aJ (CN rs) ps) else none).length<=j:=KD (List.length_filterMap_le _ _) (by rw[KM];omega);have hsn6:((pss.take (j+1)).filterMap λps=>if 0<aJ (CN rs) ps then some (num,ps,aJ (CN rs) ps) else none)=((pss.take j).filterMap λps=>if 0<aJ (CN rs) ps then some (num,ps,aJ (CN rs) ps) else none)++(if 0<aJ (CN rs) (pss[j]'⋯) then[(num,pss[j]'⋯,aJ (CN rs) (pss[j]'⋯))] else[]):=by
     rw[List.take_add_one,hpj,List.filterMap_append]
     congr 1
     show List.filterMap _ [_]=_
     by_cases h0:0<aJ (CN rs) (pss[j]'⋯)<;>simp[h0]
    walk_at "n";refine⟨dx,_,te6.at_,rfl,a,dx,g,dg,d1,d2,_,sg,st,as,rs,m,_,rfl,te6,hTr,pc1,pc2,pc3,λH7 sd7 mm7=>h1 _ _ ?_⟩;clear h1;generalize hmany:aJ (CN rs) (pss[j]'⋯)=many at hsn6;generalize hpsj:pss[j]'⋯=psj at hsn6 hTr;have kp7:=te6.kp sd7;have hst7:=hst6.kp kp7;walk_at "wp"
    by_cases h0:0<many
    ·rw[if_pos ⋯]
     obtain⟨xs7,hx7⟩:∃xs,H7 ls=some (.lst xs):=let ⟨_,ts,h,_⟩:=hst7;⟨_,h⟩
     have hxl:=hst7.len hx7;have n24:=te.n24;refine⟨.inl ⟨rfl,_,aS.of hx7⟩,al nofun,λp1 hp1=>?_⟩;have t1:=ae (o:=.tup [V.int (num:Int),V.ref rw_[j],V.int (many:Int)]) hp1;have e1:ax H7 p1 (.tup [V.int (num:Int),V.ref rw_[j],V.int (many:Int)]) p1=some (.tup [V.int (num:Int),V.ref rw_[j],V.int (many:Int)]):=ac;generalize ax H7 p1 (.tup [V.int (num:Int),V.ref rw_[j],V.int (many:Int)])=H8 at t1 e1 ⊢;have hx8:=t1 _ _ hx7;obtain⟨m1,m2,hm1,hm2,hmm,hsi⟩:=mm7;have nd1:d1≠ls:=λe=>by rw[e,hx7]at hm1;cases hm1
     have nd2:d2≠ls:=λe=>by rw[e,hx7]at hm2;cases hm2
     have hz:=(hfr j _ _ (J7 hlt6) hpj);have hzl:rw_[j]≠ls:=λe=>by
      obtain⟨xs,h⟩:=hls4;rw[e,h]at hz;cases hz.1
     refine⟨_,hx8,by rw[hxl,Ku];exact bf ⋯,?_,hlt6,⟨m1,m2,by rw[ao nd1];exact t1 _ _ hm1,by rw[ao nd2];exact t1 _ _ hm2,hmm,(hsi.kp (.of t1)).kz (u5.put hx8)⟩,by rw[ao nl1];exact t1 _ _ (kp7.lst hL6),by rw[ao nls];exact t1 _ _ (kp7.lst hr6),λi a ps x1 x2=>(((hre6 i a ps x1 x2).kp kp7).up t1).put ?_ ⟨_,hx8⟩,?_⟩
     ·intro x o n1 n2 e
      rw[ao (λz=>by rw[z,fls]at e;cases e)];exact t1 _ _ (sd7 x o n1 n2 (sd6 x o n1 n2 e))
     ·intro z
      have hz:=(hfr i a ps x1 x2).1;obtain⟨xs,h⟩:=hls4;rw[z,h]at hz;cases hz
     ·rw[hsn6,if_pos h0,<- KI]
      exact(hst7.kp (.of t1)).app (x:=(num,psj,many)) hx8 e1 ((hTr.kp kp7).up t1) ⟨te.fresh sd mm hz.1,hzl⟩
    ·rw[if_neg ⋯]
     refine⟨sd6.trans sd7,hlt6,mm7,kp7.lst hL6,kp7.lst hr6,λi a ps x1 x2=>(hre6 i a ps x1 x2).kp kp7,?_⟩;rw[hsn6,if_neg h0,KH];exact hst7
   ·rintro σ H6 ⟨sd6,_,mm6,hL6,hr6,hre6,hst6,y2,z2,rfl⟩
    refine⟨sd6,hlt,mm6,hL6,?_,_,_,_,rfl⟩;rw[J_,hrl,KL]at hst6;rw[hsn,hSq];exact hst6
  ·rintro σ H4 ⟨sd,_,mm,_,hst,x1,y1,z1,rfl⟩
   refine h1 _ _ ?_;walk_at "wp";have hl':(wy (bM (tx p.1) rs)).length=(bM (tx p.1) rs).length:=by rw[wy,J_]
   rw[hl',KL,<- hsT]at hst;exact q ls H4 sd mm hst
theorem ze{zs:Le}{z:Str}{k:List cS}(h:(Sum.inr z::k)∈A0 zs):z∈zs:=by
 unfold A0 at h;obtain⟨y,hy,h⟩:=List.mem_flatMap.mp h;obtain⟨r,_,h⟩:=List.mem_flatMap.mp h;obtain⟨c,_,h⟩:=List.mem_flatMap.mp h;obtain⟨j,_,e⟩:=KQ.mp h;have:=(List.cons.inj e).1;cases this;exact hy
theorem oZ.bad{st:K7}{rs:Yaa}{m:Nat}{m1 m2:List (List cS×V)}{p:TR}(h:oZ st rs m m1 m2)(hn:tx p.1∉(aY (tx st) rs).map (·.1)):cg m1 (cY p)=none:=by
 cases e:cg m1 (cY p) with
 |none=>rfl
 |some v=>exact absurd (ze (h.k1 _ (D3 e))) hn
theorem kq{kvs:List (List cS×V)}{k:List cS}{v:V}(hn:(kvs.map (·.1)).Nodup):((cC kvs k v).map (·.1)).Nodup/\∀x,x∈(cC kvs k v).map (·.1)->x=k\/x∈kvs.map (·.1):=by
 cases e:cg kvs k with
 |none=>exact⟨Ez v hn e,λx hx=>by
   rw[pV v e,Kj,Kk]at hx;rcases hx with h | h
   ·exact .inr h
   ·exact .inl (by simpa using h)⟩
 |some u=>
  have e2:(cC kvs k v).map (·.1)=kvs.map (·.1):=by
   unfold cC;have hh:(kvs.any λkv=>decide (kv.1=k))=true:=by rw[fE,e];rfl
   rw[if_pos hh,Kl];refine List.map_congr_left λkv _=>?_;show(if kv.1=k then(kv.1,v) else kv).1=kv.1
   split<;>rfl
  rw[e2];exact⟨hn,λx hx=>.inr hx⟩
theorem oZ.put{st:K7}{rs:Yaa}{m:Nat}{m1 m2:List (List cS×V)}{p:TR}{v:V}(h:oZ st rs m m1 m2)(d:qR st rs m p)(h6:m<=6):oZ st rs m (cC m1 (cY p) v) (cC m2 (cY p) (.int (CN rs p:Nat))):=by
 have hm:=Ci d h6;refine⟨(kq h.n1).1,(kq h.n2).1,λk hk=>?_,λk hk=>?_,λp' hp'=>?_⟩
 ·rcases(kq h.n1).2 k hk with e | e
  ·rw[e];exact hm
  ·exact h.k1 k e
 ·rcases(kq h.n2).2 k hk with e | e
  ·rw[e];exact hm
  ·exact h.k2 k e
 ·rw[mx]at hp' ⊢
  by_cases e:cY p'=cY p
  ·rw[if_pos e,wn e]
  ·rw[if_neg e]at hp' ⊢
   exact h.ok p' hp'
theorem vH:∀ms:List Nat,(ms.map fun(x:Nat)=>(x:Int)).sum=((ms.sum:Nat):Int)
 | []=>rfl
 |x::ms=>by rw[KC,List.sum_cons,List.sum_cons,vH ms];push_cast;rfl
noncomputable abbrev b_:Stmt:=eQ 41 2
theorem pM:av ["self","row","steps"] ["self","row"] (ai b_):=by walk_at "c"
theorem jz{R:RC}{f CG CT yaa:Addr}{fd:Lc}{n:Nat}(F:cy K "steps_of" "TreeRows.steps_of" b_ f fd)(nb:NB mg)(yam:mg "sum"=none)(ct:fD K CT)(nt:aq K CT "grammar"/\aq K CT "steps"/\aq K CT "totals")
  (ycC:bX P w K mg base (bz P w) (4*n+6) CT "reckoned" ["self","row"] (eO R CG CT yaa (n+1))) :
  aQ P w K mg base (bz P w) (4*n+7) f fd ["self","row"] (bR R CG CT yaa (n+1)):=by
 have sc:=pM;walk_at "x"
 ·obtain⟨a,dx,g,dg,d1,d2,b,sg,st,as,rs,m,p,rfl,_⟩:=h;rfl
 ·obtain⟨a,dx,g,dg,d1,d2,b,sg,st,as,rs,m,p,rfl,te,hb,cs⟩:=h
  have hu:=hr.units;refine⟨_,(af (bE (BJ (rF (KO (KS (by decide:1<=64) _) hu) (ak 1) (bA (ak 0) rfl)) (by with_unfolding_all rfl))
   (af (aB (i:=2) sc.nd rfl (Or.inl rfl) (bJ ycC (hr.mono ⋯) (aV λ_ _ _ h=>h) (ak 0) (aa (ak 1) ad)))
   (af (FR (yL (KO (KS (by decide:1<=64) _) hu) (bA (ak 0) rfl) (ak 1) (ak 2) rfl))
   (ah (yL (KO (KS (by decide:1<=64) _) hu) (bA (ak 0) rfl) (ak 1) (aA (nN rfl) rfl yam wK (aa (cH ["number","rows","many"] [] rfl (bB.of (by kernel_rfl)) (by kernel_rfl) (cE (ak 2))
    (λ_ _ _ _=>(sN (K:=K) (n:=3) rfl rfl (aK (ay (i:=0) (by show(["number","rows","many"]:List Str).Nodup;decide +kernel) rfl (Or.inl rfl)) (aK (ay (i:=1) (by show(["number","rows","many"]:List Str).Nodup;decide +kernel) rfl (Or.inl rfl)) (aK (ay (i:=2) (by show(["number","rows","many"]:List Str).Nodup;decide +kernel) rfl (Or.inl rfl)) cW))))) (λ_ _ _ _=>bU) (λ_ _ _ _=>(ak 2))) ad)) rfl))))
   aM)
   (ah (aE (uA (KO (KS (by decide:1<=64) _) hu) (bA (ak 0) rfl) (ak 1) (λ_ _=>rfl))))),?_⟩
  obtain⟨m1,m2,hm1,hm2,hmm,hsi⟩:=id te.mm;have hbk:H b=some (.tup ((cY p).map kV)):=hb;refine am λN1 h1=>?_;refine sK λtb1 tb2 ee1 ee2=>?_;walk_at "wp";refine⟨CT,dx,_,te.at_,ct.cl,nt.2.1,_,rfl,d1,rfl,cg m1 (cY p),oB.t hm1 hbk,?_⟩;have fin:∀H',(∃l,oB H' d1 (V.ref b) (some (V.ref l))/\jH H' l (aN rs p))->bV d1 d2 H H'->dI st rs m H' d1 d2->qR st rs m p->(∃m2,H' d2=some (.dT m2)/\cg m2 (cY p)=some (.int (CN rs p:Nat)))->∀x,N1 [some (V.ref a),some (V.ref b),x] H':=λH' ⟨l,hv,hZ⟩ sd mm dp hm2 x=>by
   refine h1 _ _ ?_;walk_at "wp";refine⟨CT,dx,_,(te.kp sd).ins te.at_,ct.cl,nt.2.1,_,rfl,d1,rfl,_,hv,?_⟩;rcases cs with⟨_,_,_,q⟩ | ⟨_,nn,_⟩
   ·exact q l H' sd mm hm2 hZ
   ·exact absurd dp.nm nn
  cases hv:cg m1 (cY p) with
  |some v=>
   rw[if_neg (by simp)];rw[ee2];rcases cs with⟨dp,n0,pn,q⟩ | ⟨_,nn,ex⟩
   ·walk_at "wp"
    obtain⟨l,rfl,hZ⟩:=hsi p v hv;refine fin H ⟨l,by rw[<- hv];exact oB.t hm1 hbk,hZ⟩ (λ_ _ _ _ e=>e) te.mm dp ⟨m2,hm2,hmm.ok p (by rw[hv];rfl)⟩ _
   ·rw[hmm.bad nn]at hv;cases hv
  |none=>
   rw[if_pos (by simp)];rw[ee1];walk_at "o";refine⟨dx,_,te.at_,rfl,a,dx,g,dg,d1,d2,b,sg,st,as,rs,m,p,rfl,te,hb,?_⟩;rcases cs with⟨dp,n0,pn,q⟩ | ⟨_,nn,ex⟩
   rotate_left
   ·exact .inr ⟨Nat.succ_pos _,nn,ex⟩
   refine .inl ⟨dp,n0,pn,λl H1 sd1 mm1 hst=>h2 _ _ ?_⟩;clear h2;have te1:=te.next sd1 mm1;obtain⟨m1',m2',hm1',hm2',hmm',hsi'⟩:=id mm1;have kp1:=te.kp sd1;have hb1:H1 b=some (.tup ((cY p).map kV)):=kp1.tup hb;have hln:=hmm'.len te.nz;walk_at "o";have kp2:Kp H1 (ax H1 d1 (.dT (cC m1' (cY p) (V.ref l)))):=Kp.put hm1';obtain⟨ls,hls,hls0,hZ⟩:=(hst.kp kp2).known;refine⟨CT,dx,_,te1.at_,ct.cl,nt.2.1,_,rfl,d1,rfl,_,A5.t hm1' hb1 hln.1,ls,hls,λos=>h2 _ _ ?_⟩;clear h2;have hZ:=hZ os;have kz2:u5 H1 (cM (ax H1 d1 (.dT (cC m1' (cY p) (V.ref l)))) ls os):=kp2.z.trans u5.frz;have e21:cM (ax H1 d1 (.dT (cC m1' (cY p) (V.ref l)))) ls os d1=some (.dT (cC m1' (cY p) (V.ref l))):=f_ ac (.inr λxs z=>by cases z);have e22:cM (ax H1 d1 (.dT (cC m1' (cY p) (V.ref l)))) ls os d2=some (.dT m2'):=f_ (by rw[ao te.ne.symm];exact hm2') (.inr λxs z=>by cases z);have sd2:bV d1 d2 H (cM (ax H1 d1 (.dT (cC m1' (cY p) (V.ref l)))) ls os):=λx o n1 n2 e=>f_ (by rw[ao n1];exact sd1 x o n1 n2 e) (.inl λhx=>by rw[hls0 x hx]at e;cases e);generalize cM (ax H1 d1 (.dT (cC m1' (cY p) (V.ref l)))) ls os=H2 at kz2 e21 e22 sd2 hZ ⊢;clear hls hls0;have hat2:=(te.kp sd2).ins te.at_;have hb2:=(te.kp sd2).tup hbk;obtain⟨ts,o,hts,htl,hte⟩:=id hZ;have hsl:=nA te.gc (dp.row te.m6) te.n24;have hss:=mR te.gc (dp.row te.m6);walk_at "wp";have hz1:(ts.zip (aN rs p)).map (·.1)=ts:=List.map_fst_zip ⋯;have hz2:(ts.zip (aN rs p)).map (·.2)=aN rs p:=List.map_snd_zip ⋯;have hzr:(ts.zip (aN rs p)).map (λz=>V.ref z.1)=ts.map V.ref:=by rw[<- congrArg (List.map V.ref) hz1,Kl];rfl
   refine⟨⟨_,.inl (.inr ⟨o,hts⟩)⟩,?_⟩;refine gq (as:=ts.zip (aN rs p)) (emb:=λz=>V.ref z.1) (f:=λz=>some (V.int (z.2.2.2:Nat))) (λσ=>∃x y z,σ=[x,y,z]) ⟨_,_,_,rfl⟩ (λH' s'=>.inl (.inr ⟨o,by rw[hzr];exact s' _ _ hts⟩)) (by rw[List.length_zip];omega) ?_ ?_
   ·rintro i z hz σ H' N1' N0 ⟨x,y,w,rfl⟩ sm k1 k0
    have h1:ts[i]?=some z.1/\(aN rs p)[i]?=some z.2:=List.getElem?_zip_eq_some.mp hz;obtain⟨rl,e,_⟩:=hte i z.1 z.2 h1.1 h1.2;walk_at "wp";exact⟨_,bh.of (sm _ _ e),rfl,_,_,rfl,_,_,rfl,_,_,rfl,rfl,k1 _ _ _ rfl sm ⟨_,_,_,rfl⟩⟩
   intro H3 s3 lc hlc;rw[j9];have emap:(ts.zip (aN rs p)).map (λz=>V.int (z.2.2.2:Nat))=(((aN rs p).map λs=>s.2.2).map fun(x:Nat)=>(x:Int)).map V.int:=by
    conv=>rhs;rw[<- hz2]
    rw[Kl,Kl,Kl];rfl
   rw[emap];generalize(aN rs p).map (λs=>s.2.2)=ms at hss;have s4:=s3.trans (ae (o:=.lst ((ms.map fun(x:Nat)=>(x:Int)).map V.int)) hlc);have e4:ax H3 lc (.lst ((ms.map fun(x:Nat)=>(x:Int)).map V.int)) lc=some (.lst ((ms.map fun(x:Nat)=>(x:Int)).map V.int)):=ac;generalize ax H3 lc (.lst ((ms.map fun(x:Nat)=>(x:Int)).map V.int))=H4 at s4 e4 ⊢;refine⟨_,aS.of e4,CT,dx,_,s4 _ _ hat2,ct.cl,nt.2.2,_,rfl,d2,rfl,_,A5.t (s4 _ _ e22) (s4 _ _ hb2) hln.2,?_⟩;rw[vH,hss];have nb2:b≠d2:=λe=>by rw[e,e22]at hb2;cases hb2
   have kz5:u5 H1 (ax H4 d2 (.dT (cC m2' (cY p) (V.int (CN rs p:Nat))))):=(kz2.trans (Kp.of s4).z).trans (Kp.put (s4 _ _ e22)).z;have hZ5:jH (ax H4 d2 (.dT (cC m2' (cY p) (V.int (CN rs p:Nat))))) l (aN rs p):=(hZ.kz (Kp.of s4).z).kz (Kp.put (s4 _ _ e22)).z;refine fin _ ⟨l,?_,hZ5⟩ ((sd2.trans (.of s4)).trans .put2) ⟨_,_,?_,ac,hmm'.put (v:=V.ref l) dp te.m6,?_⟩ dp ⟨_,ac,by rw[mx,if_pos rfl]⟩ _
   ·have:=oB.t (H:=ax H4 d2 (.dT (cC m2' (cY p) (V.int (CN rs p:Nat))))) (a:=d1) (b:=b) (kvs:=cC m1' (cY p) (V.ref l)) (k:=cY p) (by rw[ao te.ne];exact s4 _ _ e21) (by rw[ao nb2];exact s4 _ _ hb2)
    rw[mx,if_pos rfl]at this;exact this
   ·rw[ao te.ne];exact s4 _ _ e21
   ·intro p' v' hv'
    rw[mx]at hv'
    by_cases e:cY p'=cY p
    ·rw[if_pos e]at hv'
     cases hv';rw[wn e];exact⟨l,rfl,hZ5⟩
    ·rw[if_neg e]at hv'
     exact hsi'.kz kz5 p' v' hv'
noncomputable abbrev b7:Stmt:=eQ 41 1
theorem kZ:av ["self","row"] ["self","row"] (ai b7):=by walk_at "c"
theorem qY{R:RC}{f CG CT yaa:Addr}{fd:Lc}{n:Nat}(F:cy K "many_in" "TreeRows.many_in" b7 f fd)(nb:NB mg)(ct:fD K CT)(nt:aq K CT "grammar"/\aq K CT "steps"/\aq K CT "totals")
  (yaj:bX P w K mg base (bz P w) (4*n+7) CT "steps_of" ["self","row"] (bR R CG CT yaa (n+1))) :
  aQ P w K mg base (bz P w) (4*n+8) f fd ["self","row"] (bo R CG CT yaa (n+1)):=by
 have sc:=kZ;walk_at "x"
 ·obtain⟨a,dx,g,dg,d1,d2,b,sg,st,as,rs,m,p,rfl,_⟩:=h;rfl
 ·obtain⟨a,dx,g,dg,d1,d2,b,sg,st,as,rs,m,p,rfl,te,hb,cs⟩:=h
  have hu:=hr.units;refine⟨_,(af (bv (bJ yaj (hr.mono ⋯) (aV λ_ _ _ h=>h) (ak 0) (aa (ak 1) ad)))
   (ah (aE (uA (KO (KS (by decide:1<=64) _) hu) (bA (ak 0) rfl) (ak 1) (λ_ _=>rfl))))),?_⟩
  walk_at "n";refine⟨dx,_,te.at_,rfl,a,dx,g,dg,d1,d2,b,sg,st,as,rs,m,p,rfl,te,hb,?_⟩;rcases cs with⟨dp,n0,pn,q⟩ | ⟨_,nn,ex⟩
  rotate_left
  ·exact .inr ⟨Nat.succ_pos _,nn,ex⟩
  refine .inl ⟨dp,n0,pn,λv H1 sd1 mm1 ⟨m2,hm2,hv⟩ _=>h1 _ _ ?_⟩;walk_at "wp";refine⟨CT,dx,_,(te.kp sd1).ins te.at_,ct.cl,nt.2.2,_,rfl,d2,rfl,_,?_,q H1 sd1 mm1⟩;have:=oB.t (k:=cY p) hm2 ((te.kp sd1).tup hb);rw[hv]at this;exact this
theorem AS{R:RC}{f CG CT yaa:Addr}{fd:Lc}(F:cy K "many_in" "TreeRows.many_in" b7 f fd):aQ P w K mg base (bz P w) 4 f fd ["self","row"] (bo R CG CT yaa 0):=by
 have no:∀{vs:List V} {H:Hp} {Q:VK} {E:XK},¬ bo R CG CT yaa 0 vs H Q E:=λh=>by
  obtain⟨a,dx,g,dg,d1,d2,b,sg,st,as,rs,m,p,_,_,_,⟨_,h0,_⟩ | ⟨h0,_⟩⟩:=h<;>exact absurd h0 ⋯
 exact F.okX (k:=3) (sp:=bo R CG CT yaa 0) kZ (λvs H Q E h=>absurd h no) (λcdv A outer s H vs Q E hr h=>absurd h no)
theorem jM{R:RC}{CG CT yaa f1 f2 f3 f4:Addr}{fd1 fd2 fd3 fd4:Lc}{t1:Tok}(F1:cy K "many_in" "TreeRows.many_in" b7 f1 fd1)(F2:cy K "steps_of" "TreeRows.steps_of" b_ f2 fd2)(F3:cy K "reckoned" "TreeRows.reckoned" b9 f3 fd3)(F4:cy K "many_together" "TreeRows.many_together" bj f4 fd4)
  (nb:NB mg) (yam:mg "sum"=none) (yah:mg "MOST"=some (.int 6 t1)) (ct:fD K CT) (nt:aq K CT "grammar"/\aq K CT "steps"/\aq K CT "totals") (me1:cN K CT "many_in" f1) (me2:cN K CT "steps_of" f2) (me3:cN K CT "reckoned" f3) (me4:cN K CT "many_together" f4)
  (b1:cn K fd1 ["self","row"] []) (b2:cn K fd2 ["self","row"] []) (b3:cn K fd3 ["self","row"] []) (b4:cn K fd4 ["self","rows"] [])
  (yai:eR P w K mg base bG 1 "fewest" ["size"] (ik K)) (yan:bX P w K mg base (bz P w) 1 CG "numbers_of" ["self","name"] (cq R CG yaa)) (yad:bX P w K mg base bG 1 CG "rule" ["self","k"] (b6 R CG)) (yap:oG P w K mg base bG 3 "part_rows" (k6 R)) :
  ∀n,bX P w K mg base (bz P w) (4*n+4) CT "many_in" ["self","row"] (bo R CG CT yaa n)
 |0=>⟨f1,fd1,AS F1,ct.cl,me1,b1⟩
 |n+1=>by
  have ih:=jM F1 F2 F3 F4 nb yam yah ct nt me1 me2 me3 me4 b1 b2 b3 b4 yai yan yad yap n;have c4:bX P w K mg base (bz P w) (4*n+5) CT "many_together" ["self","rows"] (cD R CG CT n):=⟨f4,fd4,fO F4 nb ih,ct.cl,me4,b4⟩;have c3:bX P w K mg base (bz P w) (4*n+6) CT "reckoned" ["self","row"] (eO R CG CT yaa (n+1)):=⟨f3,fd3,jW F3 nb yah ct nt yai yan yad yap c4,ct.cl,me3,b3⟩;have c2:bX P w K mg base (bz P w) (4*n+7) CT "steps_of" ["self","row"] (bR R CG CT yaa (n+1)):=⟨f2,fd2,jz F2 nb yam ct nt c3,ct.cl,me2,b2⟩;exact⟨f1,fd1,qY F1 nb ct nt c2,ct.cl,me1,b1⟩
noncomputable abbrev gN:Stmt:=iZ 43
structure so(st:K7)(rs:Yaa)(m:Nat):Prop where
 gc:dE rs
 gt:∀q∈rs,0<=q.2.t
 sm:∀p:TR,p.2.1<=m->p.2.2.1<=m->p.2.2.2<=7->CN rs p<2 ^ 64
 m6:m<=6
 n24:rs.length<=24
 nz:(aY (tx st) rs).length<=100
inductive jr(R:RC)(CG CN_:Addr)(vs:List V)(H:Hp)(Q:VK)(E:XK):Prop
 |mk (g dg:Addr) (sg st:K7) (as:La) (rs:Yaa) (m:Nat) (p:TR) (_:vs=[.ref g,.str (tx p.1),.int (p.2.1:Int),.int (p.2.2.1:Int),.int p.2.2.2]) (_:dC R H CG dg g sg st as rs) (_:so st rs m) (_:((qR st rs m p/\∀H',az H H'->Q (.int (CN rs p:Nat)) H')\/(tx p.1∉(aY (tx st) rs).map (·.1)/\∀H',az H H'->E (.ref CN_) none H')))
theorem o7:av ["grammar","name","rows","columns","cost"] ["grammar","name","rows","columns","cost"] (ai gN):=by walk_at "c"
theorem pE{R:RC}{f CG CT yaa:Addr}{fd:Lc}(F:cy K "count_trees" "count_trees" gN f fd)(nb:NB mg)(ct:fD K CT)(nt:aq K CT "grammar"/\aq K CT "steps"/\aq K CT "totals")
  (yak:kT P w K mg base bG 1 "TreeRows" CT ["self","grammar"] (eS K)) (yaf:bX P w K mg base (bz P w) 72 CT "many_in" ["self","row"] (bo R CG CT yaa 17)) :
  aQ P w K mg base (bz P w) 73 f fd ["grammar","name","rows","columns","cost"] (jr R CG yaa):=by
 have sc:=o7;walk_at "x"
 ·obtain⟨g,dg,sg,st,as,rs,m,p,rfl,_⟩:=h;rfl
 ·obtain⟨g,dg,sg,st,as,rs,m,p,rfl,gr,ok,cs⟩:=h
  have hu:=hr.units;refine⟨_,(ah (aE (bJ yaf (hr.mono nofun) (aV λ_ _ _ h=>h) (fQ yak (hr.mono nofun) rfl ba (aa (ak 0) ad)) (aa (aL (aa (ak 1) (aa (ak 2) (aa (ak 3) (aa (ak 4) ad))))) ad)))),?_⟩;walk_at "wp";intro x dx hx hdx hne;have sm1:az H (ax (ax H dx (.own x)) x (.ins CT dx [])):=(ae hdx).trans (ae (by rw[ao (Ne.symm hne)];exact hx));refine⟨x,CT,dx,g,rfl,ac,ct.cl,nt,λd1 d2 H2 f1 f2 n12 ex ed1 ed2 sx=>⟨rfl,dx,_,ex,rfl,al nofun,λb hb=>?_⟩⟩;have s2:az H H2:=λy u e=>sx y u (aC e hx) (sm1 y u e);have s3:=ae (o:=.tup (cL p)) hb;have s03:=s2.trans s3;have te:gv R CG CT (ax H2 b (.tup (cL p))) x dx g dg d1 d2 sg st as rs m:=⟨s3 _ _ ex,n12,gr.up s03,ok.gc,ok.gt,ok.sm,ok.m6,ok.n24,ok.nz,[],[],s3 _ _ ed1,s3 _ _ ed2,⟨List.nodup_nil,List.nodup_nil,(λk h=>nomatch h),(λk h=>nomatch h),(λp h=>by cases h)⟩,λp v h=>by cases h⟩;refine⟨x,dx,g,dg,d1,d2,b,sg,st,as,rs,m,p,rfl,te,ac,?_⟩;rcases cs with⟨dp,q⟩ | ⟨nn,ex'⟩
  ·exact .inl ⟨dp,nofun,by have:=dp.k16;omega,λH4 sd mm=>q H4 λy u e=>sd y u (λz=>by rw[z,sm1.free f1]at e;cases e) (λz=>by rw[z,sm1.free f2]at e;cases e) (s03 y u e)⟩
  ·exact .inr ⟨nofun,nn,ex' _ s03⟩
theorem xc{B:Nat}{f:TR->Nat}{q:Nat×RV}{r c:Nat}{k:Int}{ps:List TR}(h4:q.1<4)(hq:1<=q.2.c)(hr:1<=r)(hc:1<=c)(hk:1<=k)(h:ps∈cr q r c k)(hf:∀p∈ps,f p<=2 ^ (B*p.2.2.2.toNat)):aJ f ps<=2 ^ (B*(k-1).toNat):=by
 have mono:∀{a b:Nat},a<=b->2 ^ (B*a)<=2 ^ (B*b):=λh=>Nat.pow_le_pow_right nofun (Nat.mul_le_mul_left _ h);rcases dc h4 hr hc h with rfl | ⟨p,rfl,e1,e2,e3⟩ | ⟨_,z,x,sz,f1,f2,rfl⟩
 ·exact Nat.one_le_two_pow
 ·have h1:=hf p List.mem_cons_self
  show 1*f p<=_;rw[Nat.one_mul];exact KD h1 (mono ⋯)
 ·have g1:=bP sz.a sz.b
  have g2:=bP sz.d sz.e;have h1:=hf _ List.mem_cons_self;have h2:=hf _ (Kn _ List.mem_cons_self);show 1*f _*f _<=_;rw[Nat.one_mul];refine KD (Nat.mul_le_mul h1 h2) ?_;rw[<- Nat.pow_add,<- Nat.mul_add];exact mono (by show x.toNat+(k-q.2.c-x).toNat<=_;omega)
theorem yK{rs:Yaa}(hg:dE rs){B L:Nat}{kx:Int}(hL:∀q∈rs,∀(r c:Nat) (k:Int),1<=r->r<=6->1<=c->c<=6->k<=kx->(cr q r c k).length<=L)(hB:rs.length*L<=2 ^ B):∀(f:Nat) (p:TR),p.2.1<=6->p.2.2.1<=6->p.2.2.2<=kx->cnt rs f p<=2 ^ (B*p.2.2.2.toNat)
 |0,_,_,_,_=>Kw _
 |f+1,p,hr6,hc6,hk=>by
  unfold cnt
  split
  ·exact Kw _
  ·rename_i hn
   have hr:1<=p.2.1:=by omega
   have hc:1<=p.2.2.1:=by omega
   have k1:1<=p.2.2.2:=by have:=bP hr hc;omega
   refine KD (iW _ (L*2 ^ (B*(p.2.2.2-1).toNat)) _ λq hq=>?_) ?_
   ·obtain⟨q4,qc,_⟩:=hg q (gF hq).1
    refine KD (iW _ (2 ^ (B*(p.2.2.2-1).toNat)) _ λps hps=>?_) ?_
    ·refine xc q4 qc hr hc k1 hps λp' hp'=>?_
     have po:=jK q4 qc hr hc hps hp';have:=po.rm;have:=po.cm;have:=po.lt;exact yK hg hL hB f p' ⋯ ⋯ ⋯
    ·exact Nat.mul_le_mul (hL q (gF hq).1 _ _ _ hr hr6 hc hc6 hk) (Kv _)
   ·have hl:(fS p.1 rs).length<=rs.length:=List.length_filter_le _ _
    refine KD (Nat.mul_le_mul hl (Kv _)) ?_;rw[<- Nat.mul_assoc];have e:B*p.2.2.2.toNat=B+B*(p.2.2.2-1).toNat:=by
     rw[show p.2.2.2.toNat=1+(p.2.2.2-1).toNat by omega,Nat.mul_add,Nat.mul_one]
    rw[e,Nat.pow_add];exact Nat.mul_le_mul hB (Kv _)
theorem El{rs:Yaa}(hg:dE rs)(h24:rs.length<=24){p:TR}(hr:p.2.1<=6)(hc:p.2.2.1<=6)(hk:p.2.2.2<=16):CN rs p<=2 ^ 176:=by
 have:=yK (B:=11) (L:=75) (kx:=16) hg (λq hq r c k r1 r6 c1 c6 hk=>iP (hg q hq).1 (hg q hq).2.1 r1 c1 r6 c6 hk) (KD (Nat.mul_le_mul_right 75 h24) nofun) 17 p hr hc hk;exact KD this (Nat.pow_le_pow_right nofun ⋯)
theorem Ev{n:Nat}(h:n<=2 ^ 176):((n:Nat):Int).natAbs.log2<9000:=by
 rw[Int.natAbs_natCast]
 by_cases h0:n=0
 ·subst h0;decide
 ·exact(Nat.log2_lt h0).mpr (KO h (Nat.pow_lt_pow_right nofun nofun))
inductive b8(R:RC)(CG CT CN_ CU_:Addr)(n:Nat)(vs:List V)(H:Hp)(Q:VK)(E:XK):Prop
 |mk (a dx g dg d1 d2 b:Addr) (sg st:K7) (as:La) (rs:Yaa) (m:Nat) (p:TR) (k:Int) (_:vs=[.ref a,.ref b,.int k]) (_:gv R CG CT H a dx g dg d1 d2 sg st as rs m) (_:H b=some (.tup (cL p))) (_:0<n) (_:((qR st rs m p/\p.2.2.2<(n:Int)/\(∀(j:Nat) t,k=(j:Int)->(RT rs p)[j]?=some t->∀v H',bV d1 d2 H H'->dI st rs m H' d1 d2->b5 H' t.d v->Q v H')/\((k<0\/(CN rs p:Int)<=k)->∀H',bV d1 d2 H H'->dI st rs m H' d1 d2->E (.ref CU_) none H'))\/(tx p.1∉(aY (tx st) rs).map (·.1)/\E (.ref CN_) none H)))
inductive gx(R:RC)(CG CT:Addr)(n:Nat)(vs:List V)(H:Hp)(Q:VK)(_E:XK):Prop
 |mk (a dx g dg d1 d2 l:Addr) (sg st:K7) (as:La) (rs:Yaa) (m:Nat) (ps:List TR) (k:Nat) (ts:List bD) (_:vs=[.ref a,.ref l,.int (k:Int)]) (_:gv R CG CT H a dx g dg d1 d2 sg st as rs m) (_:FO H l ps) (_:(∀p∈ps,qR st rs m p/\p.2.2.2<(n:Int))) (_:ps.length<=2) (_:(ps≠[]->0<n)) (_:(bt (RT rs) ps)[k]?=some ts) (_:∀x vs H',bV d1 d2 H H'->dI st rs m H' d1 d2->H' x=some (.tup vs)->aR H' (ts.map bD.d) vs->Q (.ref x) H')
noncomputable def zk(rs:Yaa)(k:Nat)(ps:List TR)(i:Nat):Nat:=(ps.reverse.take i).foldl (λk p=>k/CN rs p) k
theorem CZ{rs:Yaa}{k:Nat}{ps:List TR}{i:Nat}{p:TR}(h:ps.reverse[i]?=some p):zk rs k ps (i+1)=zk rs k ps i/CN rs p:=by
 unfold zk;rw[List.take_add_one,h,List.foldl_append];rfl
theorem pY{rs:Yaa}(hg:dE rs){ps:List TR}{k:Nat}{ts:List bD}(ok:∀p∈ps,dW p)(h2:ps.length<=2)(h:(bt (RT rs) ps)[k]?=some ts) :
  ts.length=ps.length/\∀(i:Nat) p,ps.reverse[i]?=some p->∃t,ts.reverse[i]?=some t/\(RT rs p)[zk rs k ps i%CN rs p]?=some t:=by
 match ps,h2,h,ok with
 | [],_,h,_=>
  have:k=0/\ts=[]:=by
   cases k with
   |zero=>exact⟨rfl,by simpa[bt]using h.symm⟩
   |succ k=>simp[bt]at h
  obtain⟨rfl,rfl⟩:=this;exact⟨rfl,λi p e=>by simp at e⟩
 | [p],_,h,ok=>
  rw[ir]at h;obtain⟨t,ht,rfl⟩:=Kz.mp h;refine⟨rfl,λi p' e=>?_⟩;have:i=0/\p'=p:=by
   match i,e with
   |0,e=>exact⟨rfl,by simpa using e.symm⟩
   |i+1,e=>simp at e
  obtain⟨rfl,rfl⟩:=this;refine⟨t,rfl,?_⟩;show(RT rs p')[k%CN rs p']?=some t;rw[Nat.mod_eq_of_lt (by rw[<- ce hg (ok _ (by simp))];exact(J8.mp ht).1)];exact ht
 | [p1,p2],_,h,ok=>
  have l1:=ce hg (ok p1 (by simp));have l2:=ce hg (ok p2 (by simp));have hk:k<CN rs p1*CN rs p2:=by
   have:=(J8.mp h).1;rw[eV (g:=CN rs) λp hp=>ce hg (ok p hp)]at this
   simpa[aJ]using this
  have h20:0<CN rs p2:=by
   rcases Nat.eq_zero_or_pos (CN rs p2) with e | e
   ·rw[e]at hk;simp at hk
   ·exact e
  have hd:k/CN rs p2<CN rs p1:=Nat.div_lt_of_lt_mul (by rw[Nat.mul_comm];exact hk);have hm:=Nat.mod_lt k h20;obtain⟨t1,e1⟩:∃t,(RT rs p1)[k/CN rs p2]?=some t:=⟨_,J7 ⋯⟩;obtain⟨t2,e2⟩:∃t,(RT rs p2)[k%CN rs p2]?=some t:=⟨_,J7 ⋯⟩;have:=rH (F:=RT rs) (p1:=p1) (p2:=p2) (k:=k) (t1:=t1) (t2:=t2) (by rw[l2];exact e1) (by rw[l2];exact e2);rw[this]at h;cases h;refine⟨rfl,λi p' e=>?_⟩
  match i,e with
  |0,e=>
   have:p'=p2:=by simpa using e.symm
   subst this;exact⟨t2,rfl,e2⟩
  |1,e=>
   have:p'=p1:=by simpa using e.symm
   subst this;refine⟨t1,rfl,?_⟩;show(RT rs p')[k/CN rs p2%CN rs p']?=some t1;rw[Nat.mod_eq_of_lt hd];exact e1
  |i+2,e=>simp at e
noncomputable abbrev cA:Stmt:=eQ 41 6
theorem pC:av ["self","rows","k","trees","row","many"] ["self","rows","k"] (ai cA):=by walk_at "c"
theorem pr{R:RC}{f CG CT yaa yac:Addr}{fd:Lc}{n lv:Nat}(hlv:72<=lv)(F:cy K "trees_in" "TreeRows.trees_in" cA f fd)(nb:NB mg)
  (yaf:bX P w K mg base (bz P w) 72 CT "many_in" ["self","row"] (bo R CG CT yaa 17)) (yau:bX P w K mg base (bz P w) lv CT "tree_in" ["self","row","k"] (b8 R CG CT yaa yac n)) :
  aQ P w K mg base (bz P w) (lv+1) f fd ["self","rows","k"] (gx R CG CT n):=by
 have sc:=pC;walk_at "x"
 ·obtain⟨a,dx,g,dg,d1,d2,l,sg,st,as,rs,m,ps,k,ts,rfl,_⟩:=h;rfl
 ·obtain⟨a,dx,g,dg,d1,d2,l,sg,st,as,rs,m,ps,k,ts,rfl,te,hl,hps,hp2,hn,hts,q⟩:=h
  have hu:=hr.units;refine⟨_,(af (aB (i:=3) sc.nd rfl (Or.inl rfl) (aL ad))
   (af (bw PassesOwn.leaving rfl (wQ rfl nb.reversed (aa (ak 1) ad)) (ay (i:=4) sc.nd rfl (Or.inl rfl))
   (af (aB (i:=5) sc.nd rfl (Or.inl rfl) (bJ yaf (hr.mono ⋯) (aV λ_ _ _ h=>h) (ak 0) (aa (ak 4) ad)))
   (af (aB (i:=3) sc.nd rfl (Or.inl rfl) (aw dH (aL (aa (bJ yau (hr.mono ⋯) (aV λ_ _ _ h=>h) (ak 0) (aa (ak 4) (aa (aw (bd.m1 bI) (ak 2) (ak 5)) ad))) ad)) (ak 3)))
   (ah (aB (i:=2) sc.nd rfl (Or.inl rfl) (aw (bd.m1 Dw) (ak 2) (ak 5)))))))
   (ah (aE (ak 3))))),?_⟩
  walk_at "n";refine⟨Kw _,λx0 hx0=>h1 _ _ ?_⟩;clear h1;have s1:=ae (o:=.tup []) hx0;have e1:ax H x0 (.tup []) x0=some (.tup []):=ac;generalize ax H x0 (.tup [])=H1 at s1 e1 ⊢;walk_at "n";obtain⟨bs,o,hlz,hbl,hbt⟩:=id hl;obtain⟨htl,hback⟩:=pY te.gc (λp hp=>((hps p hp).1.row te.m6)) hp2 hts;refine⟨_,.inl (.inr ⟨o,s1 _ _ hlz⟩),?_⟩;refine CD (xs:=bs.map V.ref) (λi σ H'=>bV d1 d2 H H'/\dI st rs m H' d1 d2/\i<=bs.length/\∃(x:Addr) (vs:List V) (y z:Option V),H' x=some (.tup vs)/\aR H' (((ts.reverse.take i).reverse).map bD.d) vs/\vs.length<=i/\σ=[some (V.ref a),some (V.ref l),some (V.int (zk rs k ps i:Nat)),some (V.ref x),y,z])
   ⟨.of s1,(te.up s1).mm,Kw _,x0,[],_,_,e1,by unfold aR;rfl,Kv _,rfl⟩ (λi σ H' _ h=>.inl (.inr ⟨o,h.1 _ _ (λz=>by obtain⟨m1,_,h1,_⟩:=te.mm;rw[z,h1]at hlz;cases hlz) (λz=>by obtain⟨_,m2,_,h2,_⟩:=te.mm;rw[z,h2]at hlz;cases hlz) hlz⟩)) ?_ ?_
  ·rintro i x σ H2 hlt0 hx ⟨sd,mm,hi,xt,vs,y,z,hxt,hvs,hvl,rfl⟩
   have hlt:i<bs.length:=by simpa using hlt0
   have hix:bs.length-1-i<bs.length:=by omega
   rw[J_,Ka,J7 hix]at hx;cases hx;obtain⟨p,hpi⟩:∃p,ps[bs.length-1-i]?=some p:=⟨_,J7 ⋯⟩;have hb:=hbt _ _ _ (J7 hix) hpi;have hpr:ps.reverse[i]?=some p:=by
    rw[List.getElem?_reverse ⋯,<- hbl];exact hpi
   obtain⟨dp,kn⟩:=hps _ (Kb hpi);have hne:ps≠[]:=λe=>by rw[e]at hpi;simp at hpi
   obtain⟨t,ht1,ht2⟩:=hback i _ hpr;have hkn:zk rs k ps (i+1)=zk rs k ps i/CN rs p:=CZ hpr;generalize bs[bs.length-1-i]'hix=b at hb;have te2:=te.next sd mm;have hb2:=(te.kp sd).tup hb;have hlen:=ce te.gc (dp.row te.m6);have hC0:0<CN rs p:=by rw[<- hlen];have:=(J8.mp ht2).1;omega
   have hCb:=El te.gc te.n24 (p:=p) (by have:=dp.rm;have:=te.m6;omega) (by have:=dp.cm;have:=te.m6;omega) dp.k16;walk_at "o";refine⟨dx,_,te2.at_,rfl,a,dx,g,dg,d1,d2,b,sg,st,as,rs,m,p,rfl,te2,hb2,.inl ⟨dp,nofun,by have:=dp.k16;omega,λH3 sd3 mm3=>h2 _ _ ?_⟩⟩;clear h2;have te3:=te2.next sd3 mm3;have hb3:=(te2.kp sd3).tup hb2;walk_at "o";refine⟨dx,_,te3.at_,rfl,⋯,a,dx,g,dg,d1,d2,b,sg,st,as,rs,m,p,_,rfl,te3,hb3,hn hne,.inl ⟨dp,kn,λj t' ej hj v H4 sd4 mm4 hv=>?_,λbad=>?_⟩⟩
   rotate_left
   ·exfalso
    have h1:(zk rs k ps i:Int)%(CN rs p:Int)=((zk rs k ps i%CN rs p:Nat):Int):=by push_cast;rfl
    have h2:=Nat.mod_lt (zk rs k ps i) hC0;omega
   have ejn:j=zk rs k ps i%CN rs p:=by
    have h1:(zk rs k ps i:Int)%(CN rs p:Int)=((zk rs k ps i%CN rs p:Nat):Int):=by push_cast;rfl
    omega
   rw[ejn,ht2]at hj;cases hj;refine⟨al nofun,λp1 hp1=>?_⟩;have s5:=ae (o:=.tup [v]) hp1;have e5:ax H4 p1 (.tup [v]) p1=some (.tup [v]):=ac;generalize ax H4 p1 (.tup [v])=H5 at s5 e5 ⊢;have sd35:=(sd3.trans sd4).trans (.of s5);have hxt5:=(te2.kp sd35).tup hxt;refine iq e5 hxt5 (by simp) (by simp;omega) λp2 H6 hp2' s6=>h2 _ _ ?_;clear h2;walk_at "wp";refine⟨⟨⋯,Ev hCb⟩,(sd.trans sd35).trans (.of s6),((te3.next sd4 mm4).up (s5.trans s6)).mm,hlt,p2,[v]++vs,hp2',?_,by simp;omega,?_⟩
   ·have e8:(ts.reverse.take (i+1)).reverse=t::(ts.reverse.take i).reverse:=by rw[List.take_add_one,ht1];simp
    rw[e8,KC];have tu:ij H2 H6:=λx xs e=>((te2.kp sd35).trans (.of s6)).tup e;exact aR.cons (hv.up (ij.of (s5.trans s6)) _) (hvs.up tu _)
   ·exact⟨by rw[hkn];push_cast;rfl,rfl⟩
  ·rintro σ H2 ⟨sd,mm,hi,xt,vs,y,z,hxt,hvs,hvl,rfl⟩
   refine h1 _ _ ?_;walk_at "wp";rw[J_,hbl,<- htl]at hvs;rw[<- Ko,KL,List.reverse_reverse]at hvs;exact q xt vs H2 sd mm hxt hvs
noncomputable abbrev cu:Stmt:=eQ 41 5
theorem li:av ["self","row","k","passed","number","rows","many"] ["self","row","k"] (ai cu):=by walk_at "c"
theorem qX{R:RC}{f CG CT yaa yac:Addr}{fd:Lc}{n lv:Nat}(hlv:72<=lv)(F:cy K "tree_in" "TreeRows.tree_in" cu f fd)(nb:NB mg)(yaC:mg "NoNumber"=some (.ref yac))(yaE:XR K yac)
  (yaj:bX P w K mg base (bz P w) 71 CT "steps_of" ["self","row"] (bR R CG CT yaa 17)) (ycT:bX P w K mg base (bz P w) (lv+1) CT "trees_in" ["self","rows","k"] (gx R CG CT n)) :
  aQ P w K mg base (bz P w) (lv+2) f fd ["self","row","k"] (b8 R CG CT yaa yac (n+1)):=by
 have sc:=li;walk_at "x"
 ·obtain⟨a,dx,g,dg,d1,d2,b,sg,st,as,rs,m,p,k,rfl,_⟩:=h;rfl
 ·obtain⟨a,dx,g,dg,d1,d2,b,sg,st,as,rs,m,p,k,rfl,te,hb,_,cs⟩:=h
  have hu:=hr.units;refine⟨_,(af (aB (i:=3) sc.nd rfl (Or.inl rfl) aj)
   (af (bw PassesOwn.leaving rfl (cE (bJ yaj (hr.mono ⋯) (aV λ_ _ _ h=>h) (ak 0) (aa (ak 1) ad))) (fG (n:=3) rfl (aK (ay (i:=4) sc.nd rfl (Or.inl rfl)) (aK (ay (i:=5) sc.nd rfl (Or.inl rfl)) (aK (ay (i:=6) sc.nd rfl (Or.inl rfl)) cW))))
   (af (bE (Dg (bd.m0 l6) (bd.m0 pw) (ak 3) (ak 2) (aw (bd.m0 bN) (ak 3) (ak 6)))
   (ah (aE (aw dH (aL (aa (ak 4) ad)) (bJ ycT (hr.mono ⋯) (aV λ_ _ _ h=>h) (ak 0) (aa (ak 5) (aa (aw (bd.m0 eX) (ak 2) (ak 3)) ad))))))
   aM)
   (ah (aB (i:=3) sc.nd rfl (Or.inl rfl) (aw (bd.m0 bN) (ak 3) (ak 6))))))
   (ah (dq yaE rfl rfl yaC (eD λ_ _ _ h=>h) (bL ad))))),?_⟩
  walk_at "n";refine h1 _ _ ?_;walk_at "nc";refine⟨dx,_,te.at_,rfl,a,dx,g,dg,d1,d2,b,sg,st,as,rs,m,p,rfl,te,hb,?_⟩;rcases cs with⟨dp,pn,q,bad⟩ | ⟨nn,ex⟩
  rotate_left
  ·exact .inr ⟨nofun,nn,ex⟩
  refine .inl ⟨dp,nofun,by have:=dp.k16;omega,λl H1 sd1 mm1 _ hZ=>?_⟩;have te1:=te.next sd1 mm1;have ok:=dp.row te.m6;have hsl:=nA te.gc ok te.n24;have hss:=mR te.gc ok;obtain⟨ts,o,hts,htl,hte⟩:=id hZ;refine⟨l,rfl,⟨_,.inl (.inr ⟨o,hts⟩)⟩,?_⟩;refine dn (xs:=ts.map V.ref) (λi σ H'=>H'=H1/\(i<=ts.length/\¬ ((0:Int)<=k/\k<((((aN rs p).take i).map λs=>s.2.2).sum:Nat)))/\∃x y z,σ=[some (V.ref a),some (V.ref b),some (V.int k),some (V.int ((((aN rs p).take i).map λs=>s.2.2).sum:Nat)),x,y,z])
   ⟨rfl,⟨Kw _,by rw[K2];simp⟩,_,_,_,rfl⟩ (λi σ H' _ h=>by rw[h.1];exact .inl (.inr ⟨o,hts⟩)) ?_ ?_
  ·rintro i x σ H2 hx ⟨rfl,⟨hi,hno⟩,x1,y1,z1,rfl⟩
   have hlt:i<ts.length:=by have:=(J8.mp hx).1;rwa [J_]at this
   rw[Ka,J7 hlt]at hx;cases hx;obtain⟨s0,hs0⟩:∃s,(aN rs p)[i]?=some s:=⟨_,J7 ⋯⟩;obtain⟨rl,he,hT⟩:=hte i _ s0 (J7 hlt) hs0;generalize ts[i]'hlt=t at he;have hsn:=rV (λs:uy=>s.2.2) _ _ _ hs0;generalize hps:(((aN rs p).take i).map λs=>s.2.2).sum=pas at hno hsn;walk_at "wp";refine⟨_,bh.of he,rfl,_,_,rfl,_,_,rfl,_,_,rfl,rfl,?_⟩;rw[hsn]
   by_cases hk1:(pas:Int)<=k
   ·rw[if_pos hk1]
    refine⟨_,rfl,?_⟩
    by_cases hk2:k<(pas:Int)+(s0.2.2:Int)
    ·rw[if_pos hk2]
     refine⟨al nofun,λp1 hp1=>?_⟩;have s2:=ae (o:=.tup [V.int (s0.1:Int)]) hp1;have e2:ax H2 p1 (.tup [V.int (s0.1:Int)]) p1=some (.tup [V.int (s0.1:Int)]):=ac;generalize ax H2 p1 (.tup [V.int (s0.1:Int)])=H3 at s2 e2 ⊢;have te3:=te1.up s2;obtain⟨j,hj⟩:∃j:Nat,k=((pas+j:Nat):Int):=⟨(k-pas).toNat,⋯⟩;obtain⟨q0,hq0,hn0,hps0,hm0,h00,hfw⟩:=fb (Kb hs0);have hfp:=bP ok.r1 ok.c1;obtain⟨q4,qc,qc9⟩:=te.gc q0 (Kb hq0);have hp2:s0.2.1.length<=2:=by
      rcases dc q4 ok.r1 ok.c1 hps0 with e | ⟨p',e,_⟩ | ⟨_,z,f,sz,f1,f2,e⟩<;>rw[e]<;>simp
     have hok:∀p'∈s0.2.1,dW p':=λp' hp'=>(dY te.gc ok (Kb hs0) hp').1;obtain⟨tsx,htx⟩:∃tsx,(bt (RT rs) s0.2.1)[j]?=some tsx:=⟨_,J7 (by rw[eV (g:=CN rs) λp' hp'=>ce te.gc (hok p' hp'),<- hm0];omega)⟩;refine⟨dx,_,te3.at_,rfl,a,dx,g,dg,d1,d2,rl,sg,st,as,rs,m,s0.2.1,j,tsx,by rw[show k-(pas:Int)=(j:Int) by omega],te3,hT.kz (Kp.of s2).z,λp' hp'=>?_,hp2,λ_=>by omega,htx,λx vs H4 sd4 mm4 hx4 hvs=>?_⟩
     ·obtain⟨d',lt'⟩:=dp.part te.gc (Kb hq0) ⋯ hps0 hp'
      exact⟨d',by push_cast at pn;omega⟩
     ·have htl2:=(pY te.gc hok hp2 htx).1
      have hvl:=hvs.length;rw[J_]at hvl;refine iq ((te3.kp sd4).tup e2) hx4 (by simp) (by simp;omega) λp2 H5 hp2' s5=>?_;have hget:=BS te.gc ok hs0 htx;rw[hps]at hget;refine q (pas+j) _ hj hget (.ref p2) H5 (((sd1.trans (.of s2)).trans sd4).trans (.of s5)) ((te3.next sd4 mm4).up s5).mm (bD.of (vs:=vs) ?_ ?_)
      ·rw[yt];exact hp2'
      ·rw[uo _ ⋯];exact hvs.up (ij.of s5) _
    ·rw[if_neg hk2]
     exact⟨_,rfl,hlt,⋯,by push_cast;rfl⟩
   ·rw[if_neg hk1]
    exact⟨_,rfl,hlt,⋯,by push_cast;rfl⟩
  ·rintro σ H2 ⟨rfl,⟨_,hno⟩,x1,y1,z1,rfl⟩
   refine h1 _ _ ?_;walk_at "wp";rw[J_,htl,KL,hss]at hno;exact⟨al nofun,bad ⋯ H2 sd1 mm1⟩
theorem AH{R:RC}{f CG CT yaa yac:Addr}{fd:Lc}(F:cy K "tree_in" "TreeRows.tree_in" cu f fd):aQ P w K mg base (bz P w) 73 f fd ["self","row","k"] (b8 R CG CT yaa yac 0):=by
 have no:∀{vs:List V} {H:Hp} {Q:VK} {E:XK},¬ b8 R CG CT yaa yac 0 vs H Q E:=λh=>by
  obtain⟨a,dx,g,dg,d1,d2,b,sg,st,as,rs,m,p,k,_,_,_,h0,_⟩:=h;exact absurd h0 ⋯
 exact F.okX (k:=72) (sp:=b8 R CG CT yaa yac 0) li (λvs H Q E h=>absurd h no) (λcdv A outer s H vs Q E hr h=>absurd h no)
theorem nX{R:RC}{CG CT yaa yac f1 f2:Addr}{fd1 fd2:Lc}(F1:cy K "tree_in" "TreeRows.tree_in" cu f1 fd1)(F2:cy K "trees_in" "TreeRows.trees_in" cA f2 fd2)(nb:NB mg)(ct:fD K CT)(yaC:mg "NoNumber"=some (.ref yac))(yaE:XR K yac)
  (me1:cN K CT "tree_in" f1) (me2:cN K CT "trees_in" f2) (b1:cn K fd1 ["self","row","k"] []) (b2:cn K fd2 ["self","rows","k"] [])
  (yaf:bX P w K mg base (bz P w) 72 CT "many_in" ["self","row"] (bo R CG CT yaa 17)) (yaj:bX P w K mg base (bz P w) 71 CT "steps_of" ["self","row"] (bR R CG CT yaa 17)) :
  ∀n,bX P w K mg base (bz P w) (73+2*n) CT "tree_in" ["self","row","k"] (b8 R CG CT yaa yac n)
 |0=>⟨f1,fd1,AH F1,ct.cl,me1,b1⟩
 |n+1=>by
  have ih:=nX F1 F2 nb ct yaC yaE me1 me2 b1 b2 yaf yaj n;have c2:bX P w K mg base (bz P w) (73+2*n+1) CT "trees_in" ["self","rows","k"] (gx R CG CT n):=⟨f2,fd2,pr (lv:=73+2*n) ⋯ F2 nb yaf ih,ct.cl,me2,b2⟩;exact⟨f1,fd1,qX (lv:=73+2*n) ⋯ F1 nb yaC yaE yaj c2,ct.cl,me1,b1⟩
noncomputable abbrev kg:Stmt:=eQ 6 0
theorem CY:av ["self","why"] ["self","why"] (ai kg):=by walk_at "c"
theorem Cr{f C:Addr}{fd:Lc}(F:cy K "__init__" "NoTree.__init__" kg f fd)(xs:W.XSt K C "why"):aQ P w K mg base bG 1 f fd ["self","why"] (mv C "why"):=by
 have sc:=CY;walk_at "f"
 ·obtain⟨a,v,rfl,_⟩:=h;rfl
 ·obtain⟨a,v,rfl,ha,q⟩:=h
  refine⟨_,(ah (yY (pv 0) (pv 1) rfl)),?_⟩;walk_at "wp";exact⟨C,ha,xs,λd hd=>q d hd⟩
structure SJ where
 d:Dt
 nm:List Nat
 p:bF
 c:Int
 m:Int
 k:Nat
noncomputable def Sh:Nat->Dt->List Int->Prop
 |0,_,_=>False
 |n+1,d,ns=>∃(i:Nat) (ds:List Dt) (nss:List (List Int)),d=.tup (.int (i:Int)::ds)/\ns=(i:Int)::nss.flatten/\ds.length=nss.length/\ds.length<=2/\∀(j:Nat) d' ns',ds[j]?=some d'->nss[j]?=some ns'->Sh n d' ns'
theorem Sh.mono:∀{m n:Nat} {d:Dt} {ns:List Int},Sh m d ns->m<=n->Sh n d ns
 |0,_,_,_,h,_=>h.elim
 |m+1,0,_,_,_,h=>absurd h ⋯
 |m+1,n+1,d,ns,⟨i,ds,nss,e1,e2,e3,e4,h⟩,hmn=>⟨i,ds,nss,e1,e2,e3,e4,λj d' ns' h1 h2=>(h j d' ns' h1 h2).mono ⋯⟩
theorem Sh.len:∀{n:Nat} {d:Dt} {ns:List Int},Sh n d ns->ns.length<2 ^ n
 |0,_,_,h=>h.elim
 |n+1,d,ns,⟨i,ds,nss,e1,e2,e3,e4,h⟩=>by
  have hp:0<2 ^ n:=Nat.two_pow_pos n;have h':∀(j:Nat) ns',nss[j]?=some ns'->ns'.length<2 ^ n:=λj ns' hj=>by
   have hj2:j<ds.length:=by rw[e3];exact(J8.mp hj).1
   exact(h j _ ns' (J7 hj2) hj).len
  rw[e2,Nat.pow_succ]
  match nss,e3,h' with
  | [],_,_=>simp;omega
  | [a],_,h'=>have:=h' 0 a rfl;simp;omega
  | [a,b],_,h'=>have:=h' 0 a rfl;have:=h' 1 b rfl;simp;omega
  |a::b::c::nss,e3,_=>simp at e3;omega
theorem rW{α:Type}{xss:List (List α)}{j:Nat}{xs:List α}(h:xss[j]?=some xs):(xss.take (j+1)).flatten=(xss.take j).flatten++xs:=by
 rw[List.take_succ,h];simp
theorem iy{α:Type}:∀(xss:List (List α)) (j:Nat),(xss.take j).flatten.length<=xss.flatten.length
 | [],_=>by simp
 |xs::xss,0=>by simp
 |xs::xss,j+1=>by have:=iy xss j;simp[-List.length_flatten] ;omega
noncomputable abbrev iG:Stmt:=iZ 37
inductive gP(n:Nat)(vs:List V)(H:Hp)(Q:VK)(_E:XK):Prop
 |mk (v:V) (d:Dt) (ns:List Int) (_:vs=[v]) (_:b5 H d v) (_:Sh n d ns) (_:∀l H',H l=none->H' l=some (.lst (ns.map V.int))->az H H'->Q (.ref l) H')
theorem k_:av ["tree","numbers","part"] ["tree"] (ai iG):=by walk_at "c"
theorem lg{f:Addr}{fd:Lc}(F:cy K "numbers_in" "numbers_in" iG f fd)(nb:NB mg)(hm:mg "numbers_in"=some (.ref f))(hk:W.keepIn K (.ref f)=true)(hb:cn K fd ["tree"] []):∀n,n<=18->aQ P w K mg base bG (n+1) f fd ["tree"] (gP n)
 |0,_=>by
  refine F.ok k_ (λvs H Q E h=>?_) (λcdv A outer s H vs Q E hr h=>?_)
  ·obtain⟨v,d,ns,_,_,h,_⟩:=h;exact h.elim
  ·obtain⟨v,d,ns,_,_,h,_⟩:=h;exact h.elim
 |n+1,hn=>by
  have sc:=k_;have yaQ:eR P w K mg base bG (n+1) "numbers_in" ["tree"] (gP n):=⟨f,fd,lg F nb hm hk hb n ⋯,hm,hk,hb⟩;walk_at "f"
  ·obtain⟨v,d,ns,rfl,_⟩:=h;rfl
  ·obtain⟨v,d,ns,rfl,ht,hsh,q⟩:=h
   refine⟨_,(af (aB (i:=1) sc.nd rfl (Or.inl rfl) (bH (aa (aF aG (ak 0) aj (λ_ _=>rfl)) ad)))
   (af (bw PassesOwn.never rfl (xC (eG ni (ak 0) (fu aj) gE)) (ay (i:=2) sc.nd rfl (Or.inl rfl))
   (ah (bv (ic PySem.F.plainAttrs_list PySem.F.slot_list_extend PySem.F.type_list_extend zZ (ak 1) (aa (aI yaQ (hr.mono ⋯) rfl ba (aa (ak 2) ad)) ad)))))
   (ah (aE (ak 1))))),?_⟩
   obtain⟨i,ds,nss,rfl,rfl,e3,e4,hch⟩:=hsh;unfold b5 at ht;obtain⟨a,xs,rfl,hta,hts⟩:=ht;obtain⟨x0,ys,rfl,hx0,htr⟩:=hts.uncons;unfold b5 at hx0;subst hx0;have hyl:=htr.length;walk_at "n";refine⟨_,bh.of hta,_,wj _ _,al nofun,λl hl=>h1 _ _ ?_⟩;walk_at "nc";have s1:=ae (o:=.lst [V.int (i:Int)]) hl;have e1:ax H l (.lst [V.int (i:Int)]) l=some (.lst [V.int (i:Int)]):=ac;generalize ax H l (.lst [V.int (i:Int)])=H1 at s1 e1 ⊢;refine⟨_,bh.of (s1 _ _ hta),oX _ _,λp hp=>?_⟩;rw[Ej];have s2:=s1.trans (ae (o:=.tup ys) hp);have e2:=ae (o:=.tup ys) hp _ _ e1;have ep:ax H1 p (.tup ys) p=some (.tup ys):=ac;generalize ax H1 p (.tup ys)=H2 at s2 e2 ep ⊢;refine⟨⟨_,bh.of ep⟩,?_⟩;have hpw:2 ^ (n+1)<=2 ^ 18:=Nat.pow_le_pow_right nofun hn;have hlen:(nss.flatten).length+1<262145:=by
    have h:=Sh.len (n:=n+1) (d:=.tup (.int (i:Int)::ds)) (ns:=(i:Int)::nss.flatten) ⟨i,ds,nss,rfl,rfl,e3,e4,hch⟩;rw[Ki]at h;have:(2:Nat) ^ 18=262144:=by decide
    omega
   refine wv (xs:=ys) (λj σ H'=>az H H'/\H' p=some (.tup ys)/\H' l=some (.lst (((i:Int)::(nss.take j).flatten).map V.int))/\∃z,σ=[some (V.ref a),some (V.ref l),z]) ⟨s2,ep,by rw[K2];exact e2,_,rfl⟩ ?_ ?_ ?_
   ·rintro j σ H' _ ⟨_,h,_⟩
    exact bh.of h
   ·rintro j x σ H' hx ⟨sm,hp',hl',z,rfl⟩
    obtain⟨d',hd',ht'⟩:=fX htr hx;have hj:j<nss.length:=by rw[<- e3];exact(J8.mp hd').1
    have hns:nss[j]?=some nss[j]:=J7 hj;have b1:=iy nss j;have b2:=iy nss (j+1);rw[rW hns,Ku]at b2;walk_at "wp";refine⟨.inl ⟨rfl,_,aS.of hl'⟩,x,d',nss[j],rfl,ht'.up (ij.of sm) _,hch j d' _ hd' hns,λm H3 hm3 h3 s3=>⟨m,rfl,_,s3 _ _ hl',_,h3,?_,gg (sm.trans s3) hl,?_,?_⟩⟩
    ·simp only[J_,Ki]
     exact al ⋯
    ·rw[ao (λe=>by rw[e,hl']at hp';cases hp')]
     exact s3 _ _ hp'
    ·rw[ac,rW hns]
     simp
   ·rintro σ H' ⟨sm,hp',hl',z,rfl⟩
    refine h1 _ _ ?_;walk_at "wp";rw[hyl,e3,KL]at hl';exact q l H' hl hl' sm
theorem Gr.node{rs:Yaa}{d:Dt}{nm:K7}{p:bF}{c:Int}{k:Nat}(g:Gr rs d nm p c k):∃(n:Nat) (r:Nat×RV) (ys:List SJ),d=.tup (.int (n:Int)::ys.map SJ.d)/\rs[n]?=some r/\nm=r.2.n/\bi r.1 r.2=ys.map SJ.nm/\(∀y∈ys,Gr rs y.d y.nm y.p y.c y.k/\y.k<k)/\gu r.1 r.2 (ys.map SJ.p)=some p/\c=r.2.c+(ys.map SJ.c).sum/\ys.length<=2:=by
 cases g with
 | @cell n v e=>exact⟨n,(0,v),[],rfl,e,rfl,rfl,λy hy=>(nomatch hy),rfl,(Int.add_zero _).symm,by simp⟩
 | @turn n v d p c k e g=>
  refine⟨n,(3,v),[⟨d,v.o1,p,c,0,k⟩],rfl,e,rfl,rfl,λy hy=>?_,rfl,?_,by simp⟩
  ·rw[J'.mp hy];exact⟨g,KG _⟩
  ·show v.c+c=v.c+(c+0)
   rw[Int.add_zero]
 | @pair n kd v d1 d2 p1 p2 p c1 c2 k1 k2 hk e g1 g2 m=>
  refine⟨n,(kd,v),[⟨d1,v.o1,p1,c1,0,k1⟩,⟨d2,v.o2,p2,c2,0,k2⟩],rfl,e,rfl,?_,λy hy=>?_,m,?_,by simp⟩
  ·rcases hk with rfl | rfl<;>rfl
  ·rcases Km.mp hy with rfl | hy
   ·exact⟨g1,by show k1<max k1 k2+1;omega⟩
   ·rw[J'.mp hy]
    exact⟨g2,by show k2<max k1 k2+1;omega⟩
  ·show v.c+(c1+c2)=v.c+(c1+(c2+0))
   rw[Int.add_zero]
noncomputable abbrev iQ:Stmt:=iZ 38
inductive gY(K:W.Frag)(R:RC)(CG:Addr)(n:Nat)(vs:List V)(H:Hp)(Q:VK)(_E:XK):Prop
 |mk (g:Addr) (v:V) (pl:Addr) (nv:V) (dx:Addr) (sg st:K7) (as:La) (rs:Yaa) (d:Dt) (nm:K7) (p:bF) (c:Int) (k:Nat) (zs:List V) (_:vs=[.ref g,v,.ref pl,nv]) (_:dC R H CG dx g sg st as rs) (_:rs.length<=24) (_:b5 H d v) (_:Gr rs d nm p c k) (_:k<=n) (_:(nv=.non\/nv=.str (tx nm))) (_:bh K H pl zs) (_:zs.length+n<=100) (_:∀H',az H H'->Q .non H')
theorem k9:av ["grammar","tree","place","name","number","rule","parts","k","part"] ["grammar","tree","place","name"] (ai iQ):=by walk_at "c"
theorem ll{R:RC}{f CG yae:Addr}{fd:Lc}(F:cy K "check_form" "check_form" iQ f fd)(nb:NB mg)(rk:oI K R)(yaA:mg "NoTree"=some (.ref yae))(yaF:XI P w K mg base 1 yae "why")(yax:oG P w K mg base bG 1 "parts" (mU K R))(yad:bX P w K mg base bG 1 CG "rule" ["self","k"] (b6 R CG))(yaV:bX P w K mg base bG 1 CG "many" ["self"] (iX R CG))(hm:mg "check_form"=some (.ref f))(hk:W.keepIn K (.ref f)=true)(hb:cn K fd ["grammar","tree","place","name"] []):∀n,n<=18->aQ P w K mg base (bz P w) (n+4) f fd ["grammar","tree","place","name"] (gY K R CG n)
 |0,_=>by
  refine F.okX k9 (λvs H Q E h=>?_) (λcdv A outer s H vs Q E hr h=>?_)
  ·obtain⟨g,v,pl,nv,dx,sg,st,as,rs,d,nm,p,c,k,zs,rfl,_⟩:=h;rfl
  ·obtain⟨g,v,pl,nv,dx,sg,st,as,rs,d,nm,p,c,k,zs,rfl,_,_,_,hg,hk0,_⟩:=h
   exfalso;cases hg<;>omega
 |n+1,hn=>by
  have sc:=k9;have yaI:eR P w K mg base (bz P w) (n+4) "check_form" ["grammar","tree","place","name"] (gY K R CG n):=⟨f,fd,ll F nb rk yaA yaF yax yad yaV hm hk hb n ⋯,hm,hk,hb⟩;walk_at "x"
  ·obtain⟨g,v,pl,nv,dx,sg,st,as,rs,d,nm,p,c,k,zs,rfl,_⟩:=h;rfl
  ·obtain⟨g,v,pl,nv,dx,sg,st,as,rs,d,nm,p,c,k,zs,rfl,hG,h24,ht,hg,hkn,hnv,hpl,hz,q⟩:=h
   refine⟨_,(af (aB (i:=4) sc.nd rfl (Or.inl rfl) (aF aG (ak 1) aj (λ_ _=>rfl)))
   (af (bE (PW.pt (lm (aH (bd.m0 pw) (ak 4) aj (aO _)) (gO (aH (bd.m0 EL) (ak 4) (Du yaV (hr.mono ⋯) ba (ak 0)) (aO _)))))
   (ah (d_ yaF (hr.mono ⋯) rfl rfl yaA (d8 λ_ _ _ h=>h) (aa (aL (bL (aa (ak 2) ad))) ad)))
   aM)
   (af (aB (i:=5) sc.nd rfl (Or.inl rfl) (bJ yad (hr.mono ⋯) ba (ak 0) (aa (ak 4) ad)))
   (af (aB (i:=6) sc.nd rfl (Or.inl rfl) (vx yax (hr.mono ⋯) ba (ak 5)))
   (af (bE (aH rG (aw (bd.m0 eX) (aA zN rfl nb.len aW (aa (ak 1) ad)) aj) (aA a_ rfl nb.len aW (aa (ak 6) ad)) (aO _))
   (ah (d_ yaF (hr.mono ⋯) rfl rfl yaA (d8 λ_ _ _ h=>h) (aa (aL (bL (aa (ak 2) ad))) ad)))
   aM)
   (af (bE (PW.pt (lP (aH uD (ak 3) nG (aO _)) (l8 (aH rG (bA (ak 5) rfl) (ak 3) (aO _)))))
   (ah (d_ yaF (hr.mono ⋯) rfl rfl yaA (d8 λ_ _ _ h=>h) (aa (aL (bL (aa (ak 2) ad))) ad)))
   aM)
   (ah (bw PassesOwn.leaving rfl (oR rfl nb.enumerate (aa (ak 6) ad)) (fG (n:=2) rfl (aK (ay (i:=7) sc.nd rfl (Or.inl rfl)) (aK (ay (i:=8) sc.nd rfl (Or.inl rfl)) cW)))
   (ah (bv (aI (E:=E) yaI (hr.mono ⋯) rfl (aV λ_ _ _ h=>h) (aa (ak 0) (aa (aF aG (ak 1) (aw (bd.m0 bN) (ak 7) aj) (λ_ _=>rfl)) (aa (aw yT (ak 2) (aL (aa (ak 7) ad))) (aa (ak 8) ad))))))))))))))),?_⟩
   obtain⟨i,r,ys,rfl,hri,rfl,hpar,hsub,hmd,hcc,hyl⟩:=hg.node;unfold b5 at ht;obtain⟨a,xs,rfl,hta,hts⟩:=ht;obtain⟨x0,vs,rfl,hx0,htr⟩:=hts.uncons;unfold b5 at hx0;subst hx0;have hvl:=htr.length;have hvl2:vs.length=ys.length:=by rw[hvl,J_]
   have hi:i<rs.length:=(J8.mp hri).1;walk_at "n";refine⟨_,bh.of hta,_,wj _ _,h1 _ _ ?_⟩;walk_at "nc";obtain⟨lk,pn,t,ha,hkk,hrs,hN,hmm⟩:=id hG;rw[if_neg ⋯];refine⟨_,_,ha,rfl,g,dx,sg,st,as,rs,rfl,hG,?_⟩;refine⟨_,rfl,?_⟩;rw[if_neg ⋯];refine h1 _ _ ?_;walk_at "nc";have hlr:i<as.length:=by rw[hrs.1];exact hi
   obtain⟨b,hb'⟩:∃b,as[i]?=some b:=⟨_,J7 hlr⟩;have yaW:=hrs.2 i b r hb' hri;refine⟨_,_,ha,rfl,g,dx,sg,st,as,rs,i,b,rfl,hG,hb',h1 _ _ ?_⟩;walk_at "nc";refine rN rk yaW λlp H1 hlp0 hlp s1=>h1 _ _ ?_;walk_at "nc";have hpl1:(aD (bi r.1 r.2)).length=ys.length:=by rw[ar,hpar,J_]
   refine⟨_,bh.of (s1 _ _ hta),_,aS.of hlp,?_⟩;rw[hpl1,if_neg (by rw[Ki,hvl2];omega)];refine h1 _ _ ?_;walk_at "nc";obtain⟨rdx,rl,hrb,hrl⟩:=id yaW;have go:N1 [some (V.ref g),some (V.ref a),some (V.ref pl),some nv,some (V.int (i:Int)),some (V.ref b),some (V.ref lp),none,none] H1:=by
    refine h1 _ _ ?_;clear h1;walk_at "wp";refine⟨_,aS.of hlp,?_⟩;refine kc (xs:=aD (bi r.1 r.2)) (λj σ H'=>az H H'/\H' lp=some (.lst (aD (bi r.1 r.2)))/\∃z1 z2,σ=[some (V.ref g),some (V.ref a),some (V.ref pl),some nv,some (V.int (i:Int)),some (V.ref b),some (V.ref lp),z1,z2]) ⟨s1,hlp,_,_,rfl⟩ ?_ ?_ ?_
    ·rintro j σ H' _ ⟨_,h,_⟩
     exact aS.of h
    ·rintro j x σ H' T hx ⟨sm,hlp',z1,z2,rfl⟩ hT
     have hj:j<ys.length:=by rw[<- hpl1];exact(J8.mp hx).1
     have hx':x=V.str (tx ys[j].nm):=by
      rw[hpar]at hx;rw[bb (by rw[J_];exact hj),KA]at hx;exact(Option.some.inj hx).symm
     subst hx';have sT:=ae (o:=.tup [V.int (j:Int),V.str (tx ys[j].nm)]) hT;have eT:ax H' T (.tup [V.int (j:Int),V.str (tx ys[j].nm)]) T=some (.tup [V.int (j:Int),V.str (tx ys[j].nm)]):=ac;generalize ax H' T (.tup [V.int (j:Int),V.str (tx ys[j].nm)])=H2 at sT eT ⊢;have sm2:=sm.trans sT;have hjv:j<vs.length:=by omega
     have hvj:vs[j]?=some vs[j]:=J7 hjv;obtain⟨d',hd',ht'⟩:=fX htr hvj;rw[Ka,J7 hj]at hd';cases hd';obtain⟨hgj,hkj⟩:=hsub ys[j] (Kf hj);walk_at "wp";refine⟨_,bh.of eT,rfl,_,_,rfl,_,_,rfl,rfl,?_⟩;refine⟨_,rfl,_,bh.of (sm2 _ _ hta),_,show jl (V.int (i:Int)::vs) (((j+1:Nat)):Int)=some vs[j] from bx (by rw[KB];exact hvj),al nofun,λp1 hp1=>?_⟩;have s3:=sm2.trans (ae (o:=.tup [V.int (j:Int)]) hp1);have sL:=sT.trans (ae (o:=.tup [V.int (j:Int)]) hp1);have e3:ax H2 p1 (.tup [V.int (j:Int)]) p1=some (.tup [V.int (j:Int)]):=ac;generalize ax H2 p1 (.tup [V.int (j:Int)])=H3 at s3 e3 sL ⊢;refine⟨_,s3.sqT hpl,_,bh.of e3,by simp;exact al ⋯,λpp H4 hpp s4=>?_⟩;have s5:=s3.trans s4;refine⟨g,vs[j],pp,_,dx,sg,st,as,rs,ys[j].d,ys[j].nm,ys[j].p,ys[j].c,ys[j].k,_,rfl,hG.up s5,h24,ht'.up (ij.of s5) _,hgj,⋯,.inr rfl,hpp,by simp;omega,λH5 s6=>⟨s5.trans s6,s6 _ _ (s4 _ _ (sL _ _ hlp'))⟩⟩
    ·rintro σ H' ⟨sm,hlp',z1,z2,rfl⟩
     exact q H' sm
   rcases hnv with rfl | rfl
   ·rw[if_neg (λe=>e rfl)]
    exact go
   ·rw[if_pos (λe=>by cases e)]
    refine⟨_,_,_,s1 _ _ hrb,(rk.icls r.1).cl,(rk.name r.1).1,_,(iN rl r.2 r.1).1,rfl,?_⟩;rw[if_neg (λe=>e rfl)];exact go
theorem EB{k:Nat}{v:RV}{ys:List SJ}(hk:k<4)(hp:bi k v=ys.map SJ.nm)(h6:∀y∈ys,∃r c,eF y.p r c):AB k (ys.map SJ.p):=by
 have hl:=congrArg List.length hp;rw[J_]at hl
 match k,hk with
 |0,_=>
  have h0:ys.length=0:=hl.symm;rw[KP.mp h0];exact .cell
 |1,_=>
  match ys,(show ys.length=2 from hl.symm),h6 with
  | [x,y],_,h6=>
   obtain⟨r,c,h⟩:=h6 x (by simp);obtain⟨r',c',h'⟩:=h6 y (by simp);exact .beside h h'
 |2,_=>
  match ys,(show ys.length=2 from hl.symm),h6 with
  | [x,y],_,h6=>
   obtain⟨r,c,h⟩:=h6 x (by simp);obtain⟨r',c',h'⟩:=h6 y (by simp);exact .above h h'
 |3,_=>
  match ys,(show ys.length=1 from hl.symm),h6 with
  | [x],_,h6=>
   obtain⟨r,c,h⟩:=h6 x (by simp);exact .turn h
noncomputable abbrev Db:Stmt:=iZ 39
inductive wX(K:W.Frag)(R:RC)(CG:Addr)(n:Nat)(vs:List V)(H:Hp)(Q:VK)(_E:XK):Prop
 |mk (g:Addr) (v:V) (pl:Addr) (dx:Addr) (sg st:K7) (as:La) (rs:Yaa) (d:Dt) (nm:K7) (p:bF) (c:Int) (k:Nat) (zs:List V) (_:vs=[.ref g,v,.ref pl]) (_:dC R H CG dx g sg st as rs) (_:(∀r∈rs,dD r)) (_:b5 H d v) (_:Gr rs d nm p c k) (_:k<=n) (_:bh K H pl zs) (_:zs.length+n<=100) (_:cQ H p Q)
theorem B':av ["grammar","tree","place","pictures","k","part"] ["grammar","tree","place"] (ai Db):=by walk_at "c"
theorem Cc{R:RC}{f CG CF:Addr}{fd:Lc}(F:cy K "lay" "lay" Db f fd)(nb:NB mg)(yaU:oG P w K mg base (bz P w) 4 "made" (pA K R CF))(yad:bX P w K mg base bG 1 CG "rule" ["self","k"] (b6 R CG))(hm:mg "lay"=some (.ref f))(hk:W.keepIn K (.ref f)=true)(hb:cn K fd ["grammar","tree","place"] []):∀n,n<=18->aQ P w K mg base bG (n+5) f fd ["grammar","tree","place"] (wX K R CG n)
 |0,_=>by
  refine F.ok B' (λvs H Q E h=>?_) (λcdv A outer s H vs Q E hr h=>?_)
  ·obtain⟨g,v,pl,dx,sg,st,as,rs,d,nm,p,c,k,zs,rfl,_⟩:=h;rfl
  ·obtain⟨g,v,pl,dx,sg,st,as,rs,d,nm,p,c,k,zs,rfl,_,_,_,hg,hk0,_⟩:=h
   exfalso;cases hg<;>omega
 |n+1,hn=>by
  have sc:=B';have yaJ:eR P w K mg base bG (n+5) "lay" ["grammar","tree","place"] (wX K R CG n):=⟨f,fd,Cc F nb yaU yad hm hk hb n ⋯,hm,hk,hb⟩;walk_at "f"
  ·obtain⟨g,v,pl,dx,sg,st,as,rs,d,nm,p,c,k,zs,rfl,_⟩:=h;rfl
  ·obtain⟨g,v,pl,dx,sg,st,as,rs,d,nm,p,c,k,zs,rfl,hG,hgd,ht,hg,hkn,hpl,hz,q⟩:=h
   refine⟨_,(af (aB (i:=3) sc.nd rfl (Or.inl rfl) (bH ad))
   (af (bw PassesOwn.never rfl (CS rfl nb.enumerate (aa (eG ni (ak 1) (fu aj) gE) ad)) (fG (n:=2) rfl (aK (ay (i:=4) sc.nd rfl (Or.inl rfl)) (aK (ay (i:=5) sc.nd rfl (Or.inl rfl)) cW)))
   (ah (bv (ic PySem.F.plainAttrs_list PySem.F.slot_list_append PySem.F.type_list_append dN (ak 3) (aa (aI yaJ (hr.mono ⋯) rfl ba (aa (ak 0) (aa (ak 5) (aa (aw yT (ak 2) (aL (aa (ak 4) ad))) ad)))) ad)))))
   (ah (u6 (ah (aE (yw (CX:=bz P w) yaU (hr.mono ⋯) bc (bJ yad (hr.mono ⋯) ba (ak 0) (aa (aF aG (ak 1) aj (λ_ _=>rfl)) ad)) (aa (ak 3) ad)))))))),?_⟩
   obtain⟨i,r,ys,rfl,hri,rfl,hpar,hsub,hmd,hcc,hyl⟩:=hg.node;unfold b5 at ht;obtain⟨a,xs,rfl,hta,hts⟩:=ht;obtain⟨x0,vs,rfl,hx0,htr⟩:=hts.uncons;unfold b5 at hx0;subst hx0;have hvl:=htr.length;have hvl2:vs.length=ys.length:=by rw[hvl,J_]
   have hi:i<rs.length:=(J8.mp hri).1;walk_at "n";refine⟨Kw _,λl hl=>h1 _ _ ?_⟩;walk_at "nc";have s1:=ae (o:=.lst []) hl;have e1:ax H l (.lst []) l=some (.lst []):=ac;generalize ax H l (.lst [])=H1 at s1 e1 ⊢;refine⟨_,bh.of (s1 _ _ hta),oX _ _,λpt hpt=>?_⟩;rw[Ej];have s2:=s1.trans (ae (o:=.tup vs) hpt);have e2:=ae (o:=.tup vs) hpt _ _ e1;have ep:ax H1 pt (.tup vs) pt=some (.tup vs):=ac;generalize ax H1 pt (.tup vs)=H2 at s2 e2 ep ⊢;have hne:∀y∈ys,y.p≠[]:=λy hy e=>by
    obtain⟨r',c',h6⟩:=(hsub y hy).1.pic6 hgd;have:=h6.rc.1;have:=h6.r0;rw[e]at *;simp at *;omega
   refine⟨_,bh.of ep,?_⟩;refine xI (xs:=vs) (λj σ H'=>az H H'/\H' pt=some (.tup vs)/\(∃bs:List Addr,H' l=some (.lst (bs.map V.ref))/\bs.length=j/\∀(m:Nat) b y,bs[m]?=some b->ys[m]?=some y->H' b=some (.lst (aD y.p)))/\∃z1 z2,σ=[some (V.ref g),some (V.ref a),some (V.ref pl),some (V.ref l),z1,z2]) ⟨s2,ep,⟨[],e2,rfl,λm b y h=>by simp at h⟩,_,_,rfl⟩ ?_ ?_ ?_
   ·rintro j σ H' _ ⟨_,h,_⟩
    exact bh.of h
   ·rintro j x σ H' T hx ⟨sm,hpt',⟨bs,hbs,hbl,hbat⟩,z1,z2,rfl⟩ hT
    have hjv:j<vs.length:=(J8.mp hx).1;have hj:j<ys.length:=by omega
    have sT:=ae (o:=.tup [V.int (j:Int),x]) hT;have eT:ax H' T (.tup [V.int (j:Int),x]) T=some (.tup [V.int (j:Int),x]):=ac;generalize ax H' T (.tup [V.int (j:Int),x])=H3 at sT eT ⊢;obtain⟨d',hd',ht'⟩:=fX htr hx;rw[Ka,J7 hj]at hd';cases hd';obtain⟨hgj,hkj⟩:=hsub ys[j] (Kf hj);have sm3:=sm.trans sT;walk_at "wp";refine⟨_,bh.of eT,rfl,_,_,rfl,_,_,rfl,rfl,.inl ⟨rfl,_,aS.of (sT _ _ hbs)⟩,al nofun,λp1 hp1=>?_⟩;have sU:=ae (o:=.tup [V.int (j:Int)]) hp1;have eU:ax H3 p1 (.tup [V.int (j:Int)]) p1=some (.tup [V.int (j:Int)]):=ac;generalize ax H3 p1 (.tup [V.int (j:Int)])=H4 at sU eU ⊢;have s4:=sm3.trans sU;refine⟨_,s4.sqT hpl,_,bh.of eU,by simp;exact al ⋯,λpp H5 hpp s5=>?_⟩;have s6:=s4.trans s5;have sT5:=(sT.trans sU).trans s5;refine⟨g,x,pp,dx,sg,st,as,rs,ys[j].d,ys[j].nm,ys[j].p,ys[j].c,ys[j].k,_,rfl,hG.up s6,hgd,ht'.up (ij.of s6) _,hgj,⋯,hpp,by simp;omega,λlq H6 hlq0 hlq s7=>?_⟩;have sT6:=sT5.trans s7;have hl6:=sT6 _ _ hbs;refine⟨_,hl6,by rw[J_];exact bf ⋯,gg (s6.trans s7) hl,?_,bs++[lq],by rw[ac];simp,by simp[hbl],λm b y hb1 hy1=>?_⟩
    ·rw[ao (λe=>by rw[e,hbs]at hpt';cases hpt')]
     exact sT6 _ _ hpt'
    ·have hym:=Kb hy1
     have hb6:H6 b=some (.lst (aD y.p)):=by
      by_cases hm':m<bs.length
      ·rw[Kt hm']at hb1
       exact sT6 _ _ (hbat m b y hb1 hy1)
      ·rw[Ks ⋯]at hb1
       have hm2:m=bs.length:=by
        have:=(J8.mp hb1).1;simp at this;omega
       subst hm2;rw[Nat.sub_self]at hb1;cases hb1;rw[hbl,J7 hj]at hy1;cases hy1;exact hlq
     rw[ao (xa hl6 hb6 (hne y hym))];exact hb6
   ·rintro σ H' ⟨sm,hpt',⟨bs,hbs,hbl,hbat⟩,z1,z2,rfl⟩
    refine h1 _ _ ?_;walk_at "wp";obtain⟨lk,pn,t,ha,hkk,hrs,hN,hmm⟩:=id (hG.up sm);have hlr:i<as.length:=by rw[hrs.1];exact hi
    obtain⟨b,hb'⟩:∃b,as[i]?=some b:=⟨_,J7 hlr⟩;have yaW:=hrs.2 i b r hb' hri;have hgr:=hgd r (Kb hri);rw[hvl2]at hbl;have ydQ:B1 H' l bs (ys.map SJ.p):=⟨hbs,by rw[hbl,J_],λm h1 h2=>by
     rw[KA];exact hbat m _ _ (J7 h1) (J7 ⋯)⟩
    refine⟨_,_,ha,rfl,_,bh.of (sm _ _ hta),_,wj _ _,g,dx,sg,st,as,rs,i,b,rfl,hG.up sm,hb',?_⟩;obtain⟨o,ho,mdx,mfs,k1,k2,k3⟩:=BA (K:=K) (CF:=CF) (E:=λ_ _ _=>False) (Q:=Q) yaW (hgr.good.ok r.1) ydQ (EB hgr.k4 hpar λy hy=>(hsub y hy).1.pic6 hgd) (λp' hp'=>by
     rw[hmd]at hp';cases hp';exact λlq H7 h0 h7 s7=>q lq H7 (gG sm h0) h7 (sm.trans s7)) (λe=>by rw[hmd]at e;cases e)
    exact⟨o,ho,b,rfl,mdx,mfs,k1,k2,k3⟩
noncomputable abbrev xG:Stmt:=iZ 35
noncomputable def nc(R:RC)(CG:Addr)(H:Hp)(g:Addr)(v:V)(rs:Yaa)(d:Dt)(p:bF)(c:Int):Prop:=∃(dx:Addr) (sg st:K7) (as:La) (nm:K7) (k:Nat),dC R H CG dx g sg st as rs/\(∀r∈rs,dD r)/\rs.length<=24/\b5 H d v/\Gr rs d nm p c k/\k<=18
theorem nc.up{R:RC}{CG:Addr}{H H':Hp}{g:Addr}{v:V}{rs:Yaa}{d:Dt}{p:bF}{c:Int}(h:nc R CG H g v rs d p c)(s:az H H'):nc R CG H' g v rs d p c:=by
 obtain⟨dx,sg,st,as,nm,k,h1,h2,h3,h4,h5,h6⟩:=h;exact⟨dx,sg,st,as,nm,k,h1.up s,h2,h3,h4.up (ij.of s) _,h5,h6⟩
inductive oQ(R:RC)(CG:Addr)(vs:List V)(H:Hp)(Q:VK)(_E:XK):Prop
 |mk (g:Addr) (v:V) (rs:Yaa) (d:Dt) (p:bF) (c:Int) (_:vs=[.ref g,v]) (_:nc R CG H g v rs d p c) (_:cQ H p Q)
theorem Ed:av ["grammar","tree"] ["grammar","tree"] (ai xG):=by walk_at "c"
theorem Et{R:RC}{f CG:Addr}{fd:Lc}(F:cy K "laid" "laid" xG f fd)(nb:NB mg)(yaI:eR P w K mg base (bz P w) 22 "check_form" ["grammar","tree","place","name"] (gY K R CG 18))(yaJ:eR P w K mg base bG 23 "lay" ["grammar","tree","place"] (wX K R CG 18)):aQ P w K mg base bG 24 f fd ["grammar","tree"] (oQ R CG):=by
 have sc:=Ed;walk_at "f"
 ·obtain⟨g,v,rs,d,p,c,rfl,_⟩:=h;rfl
 ·obtain⟨g,v,rs,d,p,c,rfl,⟨dx,sg,st,as,nm,k,hG,hgd,h24,ht,hg,hk⟩,q⟩:=h
  refine⟨_,(af (bv (aI (CX:=bz P w) yaI (hr.mono nofun) rfl bc (aa (ak 0) (aa (ak 1) (aa (aL ad) (aa nG ad))))))
   (ah (aE (aI yaJ (hr.mono nofun) rfl ba (aa (ak 0) (aa (ak 1) (aa (aL ad) ad))))))),?_⟩
  walk_at "wp";refine⟨Kw _,λp1 hp1=>?_⟩;have s1:=ae (o:=.tup []) hp1;refine⟨g,v,p1,_,dx,sg,st,as,rs,d,nm,p,c,k,[],rfl,hG.up s1,h24,ht.up (ij.of s1) _,hg,hk,.inl rfl,bh.of ac,by simp,λH2 s2=>⟨Kw _,λp2 hp2=>?_⟩⟩;have s3:=(s1.trans s2).trans (ae (o:=.tup []) hp2);exact⟨g,v,p2,dx,sg,st,as,rs,d,nm,p,c,k,[],rfl,hG.up s3,hgd,ht.up (ij.of s3) _,hg,hk,bh.of ac,by simp,λl H4 h0 h4 s4=>q l H4 (gG s3 h0) h4 (s3.trans s4)⟩
noncomputable def mF(rs:Yaa)(i:Int):Int:=match rs[i.toNat]? with | some r=>r.2.c | none=>0
theorem Gr.sh{rs:Yaa}:∀{k:Nat} {d:Dt} {nm:K7} {p:bF} {c:Int},Gr rs d nm p c k->∃ns:List Int,Sh k d ns/\(ns.map (mF rs)).sum=c/\∀i∈ns,0<=i/\i<rs.length:=by
 intro k d nm p c g
 induction g with
 | @cell n v e=>
  have hn:=(J8.mp e).1;refine⟨[(n:Int)],⟨n,[],[],rfl,rfl,rfl,by simp,λj d' ns' h=>by simp at h⟩,?_,λi hi=>?_⟩
  ·show mF rs (n:Int)+0=v.c
   unfold mF;rw[Kg,e,Int.add_zero]
  ·rw[J'.mp hi];omega
 | @turn n v d p c k e g ih=>
  obtain⟨ns,h1,h2,h3⟩:=ih;have hn:=(J8.mp e).1;refine⟨(n:Int)::ns,⟨n,[d],[ns],rfl,by simp,rfl,by simp,λj d' ns' e1 e2=>?_⟩,?_,λi hi=>?_⟩
  ·match j,e1,e2 with
   |0,e1,e2=>cases e1;cases e2;exact h1
   |j+1,e1,_=>simp at e1
  ·rw[KC,List.sum_cons,h2]
   unfold mF;rw[Kg,e]
  ·rcases Km.mp hi with rfl | hi
   ·omega
   ·exact h3 i hi
 | @pair n kd v d1 d2 p1 p2 p c1 c2 k1 k2 hk e g1 g2 m ih1 ih2=>
  obtain⟨ns1,h1,h2,h3⟩:=ih1;obtain⟨ns2,h4,h5,h6⟩:=ih2;have hn:=(J8.mp e).1;refine⟨(n:Int)::(ns1++ns2),⟨n,[d1,d2],[ns1,ns2],rfl,by simp,rfl,by simp,λj d' ns' e1 e2=>?_⟩,?_,λi hi=>?_⟩
  ·match j,e1,e2 with
   |0,e1,e2=>cases e1;cases e2;exact h1.mono ⋯
   |1,e1,e2=>cases e1;cases e2;exact h4.mono ⋯
   |j+2,e1,_=>simp at e1
  ·rw[KC,List.sum_cons,Kj,List.sum_append,h2,h5]
   unfold mF;rw[Kg,e]
  ·rcases Km.mp hi with rfl | hi
   ·omega
   ·rcases Kk.mp hi with hi | hi
    ·exact h3 i hi
    ·exact h6 i hi
noncomputable abbrev m4:Stmt:=iZ 36
inductive qP(R:RC)(CG:Addr)(vs:List V)(H:Hp)(Q:VK)(_E:XK):Prop
 |mk (g:Addr) (v:V) (rs:Yaa) (d:Dt) (p:bF) (c:Int) (_:vs=[.ref g,v]) (_:nc R CG H g v rs d p c) (_:∀H',az H H'->Q (.int c) H')
theorem xT:av ["grammar","tree"] ["grammar","tree"] (ai m4):=by walk_at "c"
theorem wN{R:RC}{f CG:Addr}{fd:Lc}(F:cy K "cost_of" "cost_of" m4 f fd)(nb:NB mg)(yam:mg "sum"=none)(rk:oI K R)(yad:bX P w K mg base bG 1 CG "rule" ["self","k"] (b6 R CG))(yaq:eR P w K mg base bG 24 "laid" ["grammar","tree"] (oQ R CG))(yaQ:eR P w K mg base bG 19 "numbers_in" ["tree"] (gP 18)):aQ P w K mg base bG 25 f fd ["grammar","tree"] (qP R CG):=by
 have sc:=xT;walk_at "f"
 ·obtain⟨g,v,rs,d,p,c,rfl,_⟩:=h;rfl
 ·obtain⟨g,v,rs,d,p,c,rfl,hL,q⟩:=h
  refine⟨_,(af (bv (aI yaq (hr.mono nofun) rfl ba (aa (ak 0) (aa (ak 1) ad))))
   (ah (aE (aA (nN rfl) rfl yam wK (aa (cH ["number"] [0] rfl (bB.of (by kernel_rfl)) (by kernel_rfl) (cE (aI yaQ (hr.mono nofun) rfl ba (aa (ak 1) ad)))
    (λ_ _ _ _=>(ay (i:=0) (by show(["number","grammar"]:List Str).Nodup;decide +kernel) rfl (Or.inl rfl))) (λ_ _ _ _=>bU) (λ_ _ _ _=>(yF (K:=K) rfl (bJ yad (hr.mono nofun) ba (ak 1) (aa (ak 0) ad)) rfl))) ad))))),?_⟩
  walk_at "wp";refine⟨g,v,rs,d,p,c,rfl,hL,λl0 H1 _ _ s1=>?_⟩;have hL1:=hL.up s1;obtain⟨dx,sg,st,as,nm,k,hG,hgd,h24,ht,hg,hk⟩:=id hL1;obtain⟨ns,hsh,hsum,hns⟩:=hg.sh;refine⟨v,d,ns,rfl,ht,hsh.mono hk,λl H2 hl0 hl s2=>?_⟩;walk_at "wp";have hG2:=hG.up s2;have hlen:ns.length<262145:=by
   have h:=(hsh.mono hk).len;have:(2:Nat) ^ 18=262144:=by decide
   omega
  refine⟨⟨_,aS.of hl⟩,?_⟩;refine gq (as:=ns) (emb:=V.int) (f:=λi=>some (V.int (mF rs i))) (λσ=>∃z,σ=[z,some (V.ref g)]) ⟨_,rfl⟩ (λH' s=>aS.of (s _ _ hl)) ⋯ ?_ ?_
  ·rintro j i hj σ H' N1 N0 ⟨z0,rfl⟩ s3 k1 _
   obtain⟨hi0,hi1⟩:=hns i (Kb hj);obtain⟨n,rfl⟩:∃n:Nat,i=(n:Int):=⟨i.toNat,⋯⟩;have hn:n<rs.length:=by omega
   obtain⟨r,hri⟩:∃r,rs[n]?=some r:=⟨_,J7 hn⟩;have hG3:=hG2.up s3;obtain⟨lk,pn,t,ha,hkk,hrs,hN,hmm⟩:=id hG3;have hlr:n<as.length:=by rw[hrs.1];exact hn
   obtain⟨b,hb'⟩:∃b,as[n]?=some b:=⟨_,J7 hlr⟩;obtain⟨rdx,rl,hrb,hrl⟩:=hrs.2 n b r hb' hri;walk_at "wp";refine⟨_,_,ha,rfl,g,dx,sg,st,as,rs,n,b,rfl,hG3,hb',_,rfl,_,_,_,hrb,(rk.icls r.1).cl,(rk.name r.1).2.1,_,(iN rl r.2 r.1).2.1,k1 _ _ _ ?_ s3 ⟨_,rfl⟩⟩;unfold mF;rw[Kg,hri]
  ·intro H3 s3 l2 hl2
   rw[B7 ns _ (g:=λi=>V.int (mF rs i)) (λ_ _=>rfl)];refine⟨ns.map (mF rs),by rw[Kl];exact aS.of ac,?_⟩;rw[hsum];exact q _ (((s1.trans s2).trans s3).trans (ae hl2))
theorem iD{rs:Yaa}(h:∀r∈rs,dD r):dE rs:=λq hq=>⟨(h q hq).k4,(h q hq).good.c1,(h q hq).good.c9⟩
inductive Sd(rs:Yaa):bD->TR->bF->Prop
 |cell {n:Nat} {v:RV}:rs[n]?=some (0,v)->Sd rs (.n0 n) (v.n,1,1,v.c) [v.sg]
 |turn {n:Nat} {v:RV} {t:bD} {r c:Nat} {k:Int} {pc:bF}:rs[n]?=some (3,v)->Sd rs t (v.o1,r,c,k) pc->Sd rs (.n1 n t) (v.n,if v.t%2=1 then c else r,if v.t%2=1 then r else c,v.c+k) (turned pc v.t.toNat)
 |beside {n:Nat} {v:RV} {t1 t2:bD} {r c1 c2:Nat} {k1 k2:Int} {q1 q2 pc:bF}:rs[n]?=some (1,v)->Sd rs t1 (v.o1,r,c1,k1) q1->Sd rs t2 (v.o2,r,c2,k2) q2->gu 1 v [q1,q2]=some pc->Sd rs (.n2 n t1 t2) (v.n,r,c1+c2,v.c+(k1+k2)) pc
 |above {n:Nat} {v:RV} {t1 t2:bD} {r1 r2 c:Nat} {k1 k2:Int} {q1 q2 pc:bF}:rs[n]?=some (2,v)->Sd rs t1 (v.o1,r1,c,k1) q1->Sd rs t2 (v.o2,r2,c,k2) q2->gu 2 v [q1,q2]=some pc->Sd rs (.n2 n t1 t2) (v.n,r1+r2,c,v.c+(k1+k2)) pc
theorem nO{v:RV}{p1 p2 p:bF}{r c r' c':Nat}(h1:eF p1 r c)(h2:eF p2 r' c')(m:gu 1 v [p1,p2]=some p):r=r'/\eF p r (c+c'):=by
 have e1:=bp h1.rc h1.r0;have e2:=bp h2.rc h2.r0;have l1:=h1.rc.1;have l2:=h2.rc.1;have m':(if p1.length=p2.length/\(p1.headD []).length+(p2.headD []).length<=6 then some (put2 p1 p2) else none)=some p:=m
 by_cases c0:p1.length=p2.length/\(p1.headD []).length+(p2.headD []).length<=6
 ·rw[if_pos c0]at m'
  cases m';rw[l1,l2,e1,e2]at c0;refine⟨c0.1,⟨⟨by unfold put2;rw[J_,List.length_zip,l1,l2];omega,λx hx=>?_⟩,h1.r0,h1.r6,by have:=h1.c0;omega,c0.2⟩⟩;unfold put2 at hx;obtain⟨y,hy,rfl⟩:=KQ.mp hx;have:=List.of_mem_zip hy;rw[Ku,h1.rc.2 _ this.1,h2.rc.2 _ this.2]
 ·rw[if_neg c0]at m';cases m'
theorem pH{v:RV}{p1 p2 p:bF}{r c r' c':Nat}(h1:eF p1 r c)(h2:eF p2 r' c')(m:gu 2 v [p1,p2]=some p):c=c'/\eF p (r+r') c:=by
 have e1:=bp h1.rc h1.r0;have e2:=bp h2.rc h2.r0;have l1:=h1.rc.1;have l2:=h2.rc.1;have m':(if(p1.headD []).length=(p2.headD []).length/\p1.length+p2.length<=6 then some (p1++p2) else none)=some p:=m
 by_cases c0:(p1.headD []).length=(p2.headD []).length/\p1.length+p2.length<=6
 ·rw[if_pos c0]at m'
  cases m';rw[l1,l2,e1,e2]at c0;refine⟨c0.1,⟨⟨by rw[Ku,l1,l2],λx hx=>?_⟩,by have:=h1.r0;omega,c0.2,h1.c0,h1.c6⟩⟩;rcases Kk.mp hx with hx | hx
  ·exact h1.rc.2 _ hx
  ·rw[h2.rc.2 _ hx];exact c0.1.symm
 ·rw[if_neg c0]at m';cases m'
theorem F'{v:RV}(h0:0<=v.t):(v.t%2=1)↔¬ (v.t.toNat%2=0):=by omega
theorem AN{v:RV}{pc:bF}{r c:Nat}(h0:0<=v.t)(h:eF pc r c):eF (turned pc v.t.toNat) (if v.t%2=1 then c else r) (if v.t%2=1 then r else c):=by
 have hr:=v7 h.rc h.r0 h.c0 v.t.toNat;have o:=F' h0
 by_cases e:v.t.toNat%2=0
 ·rw[if_pos e,if_pos e]at hr
  rw[if_neg (λz=>(o.mp z) e),if_neg (λz=>(o.mp z) e)];exact⟨hr,h.r0,h.r6,h.c0,h.c6⟩
 ·rw[if_neg e,if_neg e]at hr
  rw[if_pos (o.mpr e),if_pos (o.mpr e)];exact⟨hr,h.c0,h.c6,h.r0,h.r6⟩
theorem Sd.pic{rs:Yaa}(hg:∀r∈rs,dD r){t:bD}{p:TR}{pc:bF}(h:Sd rs t p pc):eF pc p.2.1 p.2.2.1:=by
 induction h with
 | @cell n v e=>
  have:=mZ (hg _ (Kb e)).good.sg;exact⟨⟨rfl,λx hx=>by rw[J'.mp hx];exact this⟩,(show 0<1 by decide),(show 1<=6 by decide),(show 0<1 by decide),(show 1<=6 by decide)⟩
 | @turn n v t r c k pc e _ ih=>exact AN (hg _ (Kb e)).good.t0 ih
 |beside e _ _ m ih1 ih2=>exact(nO ih1 ih2 m).2
 |above e _ _ m ih1 ih2=>exact(pH ih1 ih2 m).2
theorem DI(r c:Nat):fw r c=fw c r:=by rw[g9,g9,Nat.mul_comm]
theorem Sd.low{rs:Yaa}(hg:∀r∈rs,dD r){t:bD}{p:TR}{pc:bF}(h:Sd rs t p pc):fw p.2.1 p.2.2.1<=p.2.2.2/\((t.cnt:Nat):Int)<=p.2.2.2:=by
 induction h with
 | @cell n v e=>
  have hc:1<=v.c:=(hg _ (Kb e)).good.c1;exact⟨by show fw 1 1<=v.c;rw[g9];simp;omega,by show((1:Nat):Int)<=v.c;omega⟩
 | @turn n v t r c k pc e _ ih=>
  have hc:1<=v.c:=(hg _ (Kb e)).good.c1;have h1:fw r c<=k:=ih.1;have h2:((t.cnt:Nat):Int)<=k:=ih.2;refine⟨?_,by show((t.cnt+1:Nat):Int)<=v.c+k;omega⟩;show fw (if v.t%2=1 then c else r) (if v.t%2=1 then r else c)<=v.c+k
  split
  ·rw[DI];omega
  ·omega
 | @beside n v t1 t2 r c1 c2 k1 k2 q1 q2 pc e _ _ m ih1 ih2=>
  have hc:1<=v.c:=(hg _ (Kb e)).good.c1;have h1:fw r c1<=k1:=ih1.1;have h2:fw r c2<=k2:=ih2.1;have h3:((t1.cnt:Nat):Int)<=k1:=ih1.2;have h4:((t2.cnt:Nat):Int)<=k2:=ih2.2;refine⟨?_,by show((t1.cnt+t2.cnt+1:Nat):Int)<=v.c+(k1+k2);omega⟩;show fw r (c1+c2)<=v.c+(k1+k2);rw[g9]at h1 h2 ⊢;rw[Nat.mul_add];omega
 | @above n v t1 t2 r1 r2 c k1 k2 q1 q2 pc e _ _ m ih1 ih2=>
  have hc:1<=v.c:=(hg _ (Kb e)).good.c1;have h1:fw r1 c<=k1:=ih1.1;have h2:fw r2 c<=k2:=ih2.1;have h3:((t1.cnt:Nat):Int)<=k1:=ih1.2;have h4:((t2.cnt:Nat):Int)<=k2:=ih2.2;refine⟨?_,by show((t1.cnt+t2.cnt+1:Nat):Int)<=v.c+(k1+k2);omega⟩;show fw (r1+r2) c<=v.c+(k1+k2);rw[g9]at h1 h2 ⊢;rw[Nat.add_mul];omega
theorem bD.dep_cnt:∀t:bD,t.dep<=t.cnt
 | .n0 _=>Kv _
 | .n1 _ a=>by have:=bD.dep_cnt a;simp only[bD.dep,bD.cnt];omega
 | .n2 _ a b=>by have:=bD.dep_cnt a;have:=bD.dep_cnt b;simp only[bD.dep,bD.cnt];omega
theorem Sd.gr{rs:Yaa}{t:bD}{p:TR}{pc:bF}(h:Sd rs t p pc):Gr rs t.d p.1 pc p.2.2.2 t.dep:=by
 induction h with
 |cell e=>exact .cell e
 |turn e _ ih=>exact .turn e ih
 |beside e _ _ m ih1 ih2=>exact .pair (.inl rfl) e ih1 ih2 m
 |above e _ _ m ih1 ih2=>exact .pair (.inr rfl) e ih1 ih2 m
theorem Sd.node{rs:Yaa}(hg:∀r∈rs,dD r){t:bD}{p:TR}{pc:bF}(h:Sd rs t p pc):∃(n:Nat) (q:Nat×RV) (ps:List TR),t.i=(n:Int)/\rs[n]?=some q/\q.2.n=p.1/\ps.length=t.ps.length/\ps.length<=2/\(∀(i:Nat) t' p',t.ps[i]?=some t'->ps[i]?=some p'->∃pc',Sd rs t' p' pc'/\p'.2.2.2<p.2.2.2)/\ps∈cr q p.2.1 p.2.2.1 p.2.2.2:=by
 cases h with
 | @cell n v e=>
  refine⟨n,(0,v),[],rfl,e,rfl,rfl,by simp,λi t' p' h=>by simp[bD.ps]at h,?_⟩;show[]∈(if 1=1/\1=1/\v.c=v.c then[[]] else[]);simp
 | @turn n v t r c k pc e s=>
  have hc:1<=v.c:=(hg _ (Kb e)).good.c1;refine⟨n,(3,v),[(v.o1,r,c,k)],rfl,e,rfl,rfl,by simp,λi t' p' h1 h2=>?_,?_⟩
  ·match i,h1,h2 with
   |0,h1,h2=>cases h1;cases h2;exact⟨_,s,by show k<v.c+k;omega⟩
   |i+1,h1,_=>simp[bD.ps]at h1
  ·show[(v.o1,r,c,k)]∈[[(v.o1,(if v.t%2=1 then(if v.t%2=1 then r else c) else(if v.t%2=1 then c else r)),(if v.t%2=1 then(if v.t%2=1 then c else r) else(if v.t%2=1 then r else c)),v.c+k-v.c)]]
   by_cases o:v.t%2=1<;>simp[o]<;>omega
 | @beside n v t1 t2 r c1 c2 k1 k2 q1 q2 pc e s1 s2 m=>
  have hc:1<=v.c:=(hg _ (Kb e)).good.c1;have l1:=(s1.low hg).1;have l2:=(s2.low hg).1;have d1:=s1.pic hg;have d2:=s2.pic hg;have f1:1<=fw r c1:=bP d1.r0 d1.c0;have f2:1<=fw r c2:=bP d2.r0 d2.c0;have l1:fw r c1<=k1:=l1;have l2:fw r c2<=k2:=l2;refine⟨n,(1,v),[(v.o1,r,c1,k1),(v.o2,r,c2,k2)],rfl,e,rfl,rfl,by simp,λi t' p' h1 h2=>?_,?_⟩
  ·match i,h1,h2 with
   |0,h1,h2=>cases h1;cases h2;exact⟨_,s1,by show k1<v.c+(k1+k2);omega⟩
   |1,h1,h2=>cases h1;cases h2;exact⟨_,s2,by show k2<v.c+(k1+k2);omega⟩
   |i+2,h1,_=>simp[bD.ps]at h1
  ·show _∈aX v.o1 v.o2 (eY r (c1+c2)) (v.c+(k1+k2)-v.c)
   have h1:=d1.c0;have h2:=d2.c0;simp only at h1 h2;refine List.mem_flatMap.mpr ⟨((r,c1),(r,c2)),KQ.mpr ⟨c1-1,List.mem_range.mpr ⋯,?_⟩,KQ.mpr ⟨k1,ki.mpr ⟨l1,by show k1<v.c+(k1+k2)-v.c-fw r c2+1;omega⟩,?_⟩⟩
   ·rw[show 1+(c1-1)=c1 by omega,show c1+c2-c1=c2 by omega]
   ·rw[show v.c+(k1+k2)-v.c-k1=k2 by omega]
 | @above n v t1 t2 r1 r2 c k1 k2 q1 q2 pc e s1 s2 m=>
  have hc:1<=v.c:=(hg _ (Kb e)).good.c1;have l1:=(s1.low hg).1;have l2:=(s2.low hg).1;have d1:=s1.pic hg;have d2:=s2.pic hg;have f1:1<=fw r1 c:=bP d1.r0 d1.c0;have f2:1<=fw r2 c:=bP d2.r0 d2.c0;have l1:fw r1 c<=k1:=l1;have l2:fw r2 c<=k2:=l2;refine⟨n,(2,v),[(v.o1,r1,c,k1),(v.o2,r2,c,k2)],rfl,e,rfl,rfl,by simp,λi t' p' h1 h2=>?_,?_⟩
  ·match i,h1,h2 with
   |0,h1,h2=>cases h1;cases h2;exact⟨_,s1,by show k1<v.c+(k1+k2);omega⟩
   |1,h1,h2=>cases h1;cases h2;exact⟨_,s2,by show k2<v.c+(k1+k2);omega⟩
   |i+2,h1,_=>simp[bD.ps]at h1
  ·show _∈aX v.o1 v.o2 (fj (r1+r2) c) (v.c+(k1+k2)-v.c)
   have h1:=d1.r0;have h2:=d2.r0;simp only at h1 h2;refine List.mem_flatMap.mpr ⟨((r1,c),(r2,c)),KQ.mpr ⟨r1-1,List.mem_range.mpr ⋯,?_⟩,KQ.mpr ⟨k1,ki.mpr ⟨l1,by show k1<v.c+(k1+k2)-v.c-fw r2 c+1;omega⟩,?_⟩⟩
   ·rw[show 1+(r1-1)=r1 by omega,show r1+r2-r1=r2 by omega]
   ·rw[show v.c+(k1+k2)-v.c-k1=k2 by omega]
theorem Sd.row{rs:Yaa}(hg:∀r∈rs,dD r){t:bD}{p:TR}{pc:bF}(h:Sd rs t p pc)(k16:p.2.2.2<=16):dW p:=by
 have:=h.pic hg;exact⟨this.r0,this.r6,this.c0,this.c6,k16⟩
theorem yp{rs:Yaa}{p:TR}{n:Nat}{q:Nat×RV}{ps:List TR}(hq:rs[n]?=some q)(hn:q.2.n=p.1)(hps:ps∈cr q p.2.1 p.2.2.1 p.2.2.2)(h0:0<aJ (CN rs) ps)(hf:fw p.2.1 p.2.2.1<=p.2.2.2):(n,ps,aJ (CN rs) ps)∈aN rs p:=by
 unfold aN;rw[if_neg ⋯];refine List.mem_flatMap.mpr ⟨n,?_,?_⟩
 ·unfold bM
  exact List.mem_filterMap.mpr ⟨(q,n),List.mem_zipIdx_iff_getElem?.mpr hq,by rw[if_pos (by rw[hn])]⟩
 ·unfold cJ
  rw[hq];exact List.mem_filterMap.mpr ⟨ps,hps,by rw[if_pos h0]⟩
noncomputable abbrev mQ:Stmt:=iZ 12
inductive qD(K:W.Frag)(vs:List V)(H:Hp)(Q:VK)(_E:XK):Prop
 |mk (a:Addr) (p:bF) (r c:Nat) (_:vs=[.ref a]) (_:aS K H a (aD p)) (_:fg p r c) (_:0<r) (_:c<=64) (_:∀(tp:Addr) (H':Hp),H tp=none->H' tp=some (.tup [V.int (r:Int),V.int (c:Int)])->az H H'->Q (.ref tp) H')
theorem w8:av ["picture"] ["picture"] (ai mQ):=by walk_at "c"
theorem xL{f:Addr}{fd:Lc}(F:cy K "size_of" "size_of" mQ f fd)(nb:NB mg):aQ P w K mg base bG 1 f fd ["picture"] (qD K):=by
 have sc:=w8;walk_at "f"
 ·obtain⟨a,p,r,c,rfl,_⟩:=h;rfl
 ·obtain⟨a,p,r,c,rfl,hS,hp,hr0,hc1,q⟩:=h
  refine⟨_,(ah (aE (aL (aa (aA a_ rfl nb.len aW (aa (ak 0) ad)) (aa (aA aU rfl nb.len aW (aa (aF aZ (ak 0) aj (λ_ _=>rfl)) ad)) ad))))),?_⟩;walk_at "wp";obtain⟨hl0,hc00⟩:=fB hp hr0;refine⟨_,hS,_,hS,_,bx (bb hl0),_,rfl,by rw[au];exact al ⋯,al ⋯,λtp htp=>?_⟩;rw[ar,hp.1,au,hc00];exact q tp _ htp ac (ae htp)
noncomputable abbrev o8:Stmt:=iZ 42
inductive mS(R:RC)(CG:Addr)(vs:List V)(H:Hp)(Q:VK)(_E:XK):Prop
 |mk (g:Addr) (v:V) (rs:Yaa) (t:bD) (p:TR) (pc:bF) (_:vs=[.ref g,v]) (_:nc R CG H g v rs t.d pc p.2.2.2) (_:Sd rs t p pc) (_:∀b H',H' b=some (.tup (cL p))->az H H'->Q (.ref b) H')
theorem Ar:av ["grammar","tree","size"] ["grammar","tree"] (ai o8):=by walk_at "c"
theorem AD{R:RC}{f CG:Addr}{fd:Lc}(F:cy K "row_of" "row_of" o8 f fd)(nb:NB mg)(rk:oI K R)(yad:bX P w K mg base bG 1 CG "rule" ["self","k"] (b6 R CG))(yaq:eR P w K mg base bG 24 "laid" ["grammar","tree"] (oQ R CG))(ya7:eR P w K mg base bG 1 "size_of" ["picture"] (qD K))(ya9:eR P w K mg base bG 25 "cost_of" ["grammar","tree"] (qP R CG)):aQ P w K mg base bG 26 f fd ["grammar","tree"] (mS R CG):=by
 have sc:=Ar;walk_at "f"
 ·obtain⟨g,v,rs,t,p,pc,rfl,_⟩:=h;rfl
 ·obtain⟨g,v,rs,t,p,pc,rfl,hL,sd,q⟩:=h
  refine⟨_,(af (aB (i:=2) sc.nd rfl (Or.inl rfl) (aI ya7 (hr.mono nofun) rfl ba (aa (aI yaq (hr.mono nofun) rfl ba (aa (ak 0) (aa (ak 1) ad))) ad)))
   (ah (aE (aw dH (aw dH (aL (aa (bA (bJ yad (hr.mono nofun) ba (ak 0) (aa (aF aG (ak 1) aj (λ_ _=>rfl)) ad)) rfl) ad)) (ak 2)) (aL (aa (aI ya9 (hr.mono nofun) rfl ba (aa (ak 0) (aa (ak 1) ad))) ad)))))),?_⟩
  have hgd:∀r∈rs,dD r:=by obtain⟨dx,sg,st,as,nm,k,hG,hgd,_⟩:=hL;exact hgd
  have pd:=sd.pic hgd;obtain⟨n,q0,ps,hi,hq,hn,_⟩:=sd.node hgd;walk_at "n";refine⟨g,v,rs,t.d,pc,p.2.2.2,rfl,hL,λl0 H1 _ e1 s1=>?_⟩;refine⟨l0,pc,p.2.1,p.2.2.1,rfl,aS.of e1,pd.rc,pd.r0,by have:=pd.c6;omega,λtp H2 _ e2 s2=>h1 _ _ ?_⟩;clear h1;have s02:=s1.trans s2;have hL2:=hL.up s02;obtain⟨dx,sg,st,as,nm',k',hG,_,h24,ht,_,hd⟩:=id hL2;obtain⟨a,vs,rfl,hta,htr⟩:=bD.val ht;obtain⟨lk,pn,t0,ha,hkk,hrs,hN,hmm⟩:=id hG;have hlr:n<as.length:=by rw[hrs.1];exact(J8.mp hq).1
  obtain⟨b,hb'⟩:∃b,as[n]?=some b:=⟨_,J7 hlr⟩;obtain⟨rdx,rl,hrb,hrl⟩:=hrs.2 n b q0 hb' hq;walk_at "wp";refine⟨_,_,ha,rfl,_,bh.of hta,_,wj _ _,g,dx,sg,st,as,rs,n,b,by rw[hi],hG,hb',b,rfl,_,_,_,hrb,(rk.icls q0.1).cl,(rk.name q0.1).1,_,(iN rl q0.2 q0.1).1,al nofun,λp1 hp1=>?_⟩;have s3:=ae (o:=.tup [V.str (tx q0.2.n)]) hp1;refine iq (xs:=[V.str (tx q0.2.n)]) ac (s3 _ _ e2) (by simp) (by simp) λp2 H4 e4 s4=>?_;have s34:=s3.trans s4;refine⟨g,_,rs,t.d,pc,p.2.2.2,rfl,hL2.up s34,λH5 s5=>⟨al nofun,λp3 hp3=>?_⟩⟩;have s6:=ae (o:=.tup [V.int p.2.2.2]) hp3;refine iq (s6 _ _ (s5 _ _ e4)) ac (by simp) (by simp) λp4 H7 e7 s7=>q p4 H7 ?_ ((s02.trans s34).trans ((s5.trans s6).trans s7));rw[e7,hn]
  rfl
theorem zQ{p p':TR}(h:jV (cL p) (cL p')=true):p=p':=by
 obtain⟨a,r,c,k⟩:=p;obtain⟨a',r',c',k'⟩:=p';unfold jV at h;have h:=(Bool.and_eq_true _ _▸h).1;have at_:∀j,j<4->_:=λj hj=>KR.mp h j (List.mem_range.mpr hj);have h1:tx a=tx a':=by have:=at_ 0 nofun;simpa[cL,qd]using this
 have h2:r=r':=by have:=at_ 1 nofun;simp[cL,qd]at this;omega
 have h3:c=c':=by have:=at_ 2 nofun;simp[cL,qd]at this;omega
 have h4:k=k':=by have:=at_ 3 nofun;simpa[cL,qd]using this
 have:=g_ h1;subst this h2 h3 h4
 rfl
theorem nk(p:TR):(cL p).all ja=true:=rfl
theorem zm{ps ps':List TR}:oK (ps.map cL) (ps'.map cL)=true↔ps=ps':=by
 refine⟨λh=>?_,λh=>?_⟩
 ·unfold oK at h
  split at h
  ·rename_i hl
   rw[J_,J_]at hl;refine List.ext_getElem hl λi h1 h2=>?_;have:=KR.mp h i (List.mem_range.mpr (by rw[J_];exact h1));rw[Ka,Ka,J7 h1,J7 h2]at this;exact zQ this
  ·cases h
 ·rw[h]
  refine sw λr hr=>?_;obtain⟨p,_,rfl⟩:=KQ.mp hr;exact nk p
theorem FO.fl{H:Hp}{l:Addr}{ps:List TR}(h:FO H l ps):F0 K H l (ps.map cL):=by
 obtain⟨bs,o,h1,h2,h3⟩:=h;refine⟨bs,.inl (.inr ⟨o,h1⟩),by rw[J_,h2],λi b r e1 e2=>?_⟩;rw[Ka]at e2;obtain⟨p,hp,rfl⟩:=Kz.mp e2;exact⟨bh.of (h3 i b p e1 hp),nk p⟩
theorem qw.fl{H:Hp}{l:Addr}{ps:List TR}(h:qw H l ps):F0 K H l (ps.map cL):=by
 obtain⟨bs,h1,h2,h3⟩:=h;refine⟨bs,aS.of h1,by rw[J_,h2],λi b r e1 e2=>?_⟩;rw[Ka]at e2;obtain⟨p,hp,rfl⟩:=Kz.mp e2;exact⟨bh.of (h3 i b p e1 hp),nk p⟩
theorem Ac{F:TR->List bD}{ps:List TR}{p:TR}{k j:Nat}{ts:List bD}{t:bD}(hl:ps.length<=1)(h1:(bt F ps)[k]?=some ts)(h2:(F p)[j]?=some t):(bt F (ps++[p]))[k*(F p).length+j]?=some (ts++[t]):=by
 have hj:=(J8.mp h2).1
 match ps,hl,h1 with
 | [],_,h1=>
  have:k=0/\ts=[]:=by
   cases k with
   |zero=>exact⟨rfl,by simpa[bt]using h1.symm⟩
   |succ k=>simp[bt]at h1
  obtain⟨rfl,rfl⟩:=this;show(bt F [p])[0*(F p).length+j]?=_;rw[ir,Nat.zero_mul,Nat.zero_add,h2]
  rfl
 | [p1],_,h1=>
  rw[ir]at h1;obtain⟨t1,ht1,rfl⟩:=Kz.mp h1;refine rH (F:=F) ?_ ?_
  ·rw[Nat.add_comm,Nat.add_mul_div_right _ _ ⋯,Nat.div_eq_of_lt hj,Nat.zero_add];exact ht1
  ·rw[Nat.add_comm,Nat.add_mul_mod_self_right,Nat.mod_eq_of_lt hj];exact h2
theorem D0{q:Nat×RV}{p p1 p2:TR}(h4:q.1<4)(hc:1<=q.2.c)(ok:dW p)(h:[p1,p2]∈cr q p.2.1 p.2.2.1 p.2.2.2):p1.2.2.2<=7\/p2.2.2.2<=7:=by
 have:=ok.k16;rcases dc h4 ok.r1 ok.c1 h with e | ⟨p',e,_⟩ | ⟨_,z,f,sz,f1,f2,e⟩
 ·cases e
 ·cases e
 ·cases e
  show f<=7\/p.2.2.2-q.2.c-f<=7;omega
theorem qg{α:Type}{l:List α}{i:Nat}{x:α}(h:l[i]?=some x):l.take (i+1)=l.take i++[x]:=by rw[List.take_add_one,h];rfl
noncomputable abbrev bO:Stmt:=eQ 41 7
inductive bY(R:RC)(CG CT:Addr)(n:Nat)(vs:List V)(H:Hp)(Q:VK)(_E:XK):Prop
 |mk (a dx g dg d1 d2:Addr) (sg st:K7) (as:La) (rs:Yaa) (m:Nat) (v:V) (t:bD) (p:TR) (pc:bF) (_:vs=[.ref a,v]) (_:gv R CG CT H a dx g dg d1 d2 sg st as rs m) (_:b5 H t.d v) (_:t.dep<=n) (_:(∀r∈rs,dD r)) (_:Sd rs t p pc) (_:qR st rs m p) (_:∀(k:Nat) H',(RT rs p)[k]?=some t->bV d1 d2 H H'->dI st rs m H' d1 d2->Q (.int (k:Int)) H')
theorem i_:av ["self","tree","rows","within","row","part","passed","number","others","many"] ["self","tree"] (ai bO):=by walk_at "c"
theorem ow{R:RC}{f CG CT yaa:Addr}{fd:Lc}{n:Nat}(hn:n<18)(F:cy K "number_in" "TreeRows.number_in" bO f fd)(nb:NB mg)(ct:fD K CT)(nt:aq K CT "grammar"/\aq K CT "steps"/\aq K CT "totals")(yaw:eR P w K mg base bG 26 "row_of" ["grammar","tree"] (mS R CG))
  (yaj:bX P w K mg base (bz P w) 71 CT "steps_of" ["self","row"] (bR R CG CT yaa 17)) (yaf:bX P w K mg base (bz P w) 72 CT "many_in" ["self","row"] (bo R CG CT yaa 17)) (yaM:bX P w K mg base (bz P w) (73+n) CT "number_in" ["self","tree"] (bY R CG CT n)) :
  aQ P w K mg base (bz P w) (73+n+1) f fd ["self","tree"] (bY R CG CT (n+1)):=by
 have sc:=i_;walk_at "x"
 ·obtain⟨a,dx,g,dg,d1,d2,sg,st,as,rs,m,v,t,p,pc,rfl,_⟩:=h;rfl
 ·obtain⟨a,dx,g,dg,d1,d2,sg,st,as,rs,m,v,t,p,pc,rfl,te,ht,hd,hgd,sd,dp,q⟩:=h
  have hu:=hr.units;refine⟨_,(af (iF (i:=2) ["part"] [0] sc.nd rfl (Or.inl rfl) rfl  rfl (bB.of (by kernel_rfl)) (by kernel_rfl) (xC (eG ni (ak 1) (fu aj) gE))
    (λ_ _ _ _=>(ay (i:=0) (by show(["part","self"]:List Str).Nodup;decide +kernel) rfl (Or.inl rfl))) (λ_ _ _ _=>bU) (λ_ _ _ _=>(aI (CX:=bz P w) yaw.lift (hr.mono ⋯) rfl bc (aa (yF (K:=K) rfl (ak 1) rfl) (aa (ak 0) ad)))))
   (af (aB (i:=3) sc.nd rfl (Or.inl rfl) aj)
   (af (bw PassesOwn.leaving rfl (DX rfl nb.zip (aa (ak 2) (aa (eG ni (ak 1) (fu aj) gE) ad))) (fG (n:=2) rfl (aK (ay (i:=4) sc.nd rfl (Or.inl rfl)) (aK (ay (i:=5) sc.nd rfl (Or.inl rfl)) cW)))
   (ah (aB (i:=3) sc.nd rfl (Or.inl rfl) (aw (bd.m0 bN) (aw (bd.m1 fk) (ak 3) (bJ yaf (hr.mono ⋯) (aV λ_ _ _ h=>h) (ak 0) (aa (ak 4) ad))) (bJ yaM (hr.mono ⋯) (aV λ_ _ _ h=>h) (ak 0) (aa (ak 5) ad))))))
   (af (aB (i:=6) sc.nd rfl (Or.inl rfl) aj)
   (af (bw PassesOwn.leaving rfl (cE (bJ yaj (hr.mono ⋯) (aV λ_ _ _ h=>h) (ak 0) (aa (aI (CX:=bz P w) yaw.lift (hr.mono ⋯) rfl bc (aa (bA (ak 0) rfl) (aa (ak 1) ad))) ad))) (fG (n:=3) rfl (aK (ay (i:=7) sc.nd rfl (Or.inl rfl)) (aK (ay (i:=8) sc.nd rfl (Or.inl rfl)) (aK (ay (i:=9) sc.nd rfl (Or.inl rfl)) cW))))
   (af (bE (aH (Ft hu) (aL (aa (ak 7) (aa (ak 8) ad))) (aL (aa (aF aG (ak 1) aj (λ_ _=>rfl)) (aa (ak 2) ad))) (aO _))
   (ah Bv)
   aM)
   (ah (aB (i:=6) sc.nd rfl (Or.inl rfl) (aw (bd.m0 bN) (ak 6) (ak 9))))))
   (ah (aE (aw (bd.m0 bN) (ak 6) (ak 3))))))))),?_⟩
  obtain⟨ta,vs,rfl,hta,htr⟩:=bD.val ht;obtain⟨nn,q0,ps,hi,hq,hnm,hpl,hp2,hpp,hpr⟩:=sd.node hgd;have hvl:=sJ htr;have hlow:=sd.low hgd;have hdc:=t.dep_cnt;have k16:=dp.k16;have ok:=dp.row te.m6;obtain⟨q4,qc,qc9⟩:=te.gc q0 (Kb hq);have hcut:t.cnt<=1000:=by omega
  have kid:∀(i:Nat) t',t.ps[i]?=some t'->∃p' pc',ps[i]?=some p'/\Sd rs t' p' pc'/\qR st rs m p'/\p'.2.2.2<=15/\t'.dep<=n/\t'.cnt<=1000:=λi t' ht'=>by
   have hlt:=(J8.mp ht').1;have hp':ps[i]?=some (ps[i]'⋯):=J7 ⋯;obtain⟨pc',sd',lt'⟩:=hpp i t' _ ht' hp';have hm:=bD.lt (Kb ht');have:=bP ok.r1 ok.c1;exact⟨_,pc',hp',sd',(dp.part te.gc (Kb hq) ⋯ hpr (Kb hp')).1,⋯,⋯,⋯⟩
  walk_at "n";refine⟨_,bh.of hta,oX _ _,λpt hpt=>?_⟩;rw[Ej];have s1:=ae (o:=.tup vs) hpt;have e1:ax H pt (.tup vs) pt=some (.tup vs):=ac;generalize ax H pt (.tup vs)=H1 at s1 e1 ⊢;refine⟨⟨_,bh.of e1⟩,?_⟩;refine BN (xs:=vs) (λi acc σ H'=>az H1 H'/\i<=vs.length/\(∃bs:List Addr,acc=bs.map V.ref/\bs.length=i/\∀(j:Nat) b p',bs[j]?=some b->ps[j]?=some p'->H' b=some (.tup (cL p')))/\∃z,σ=[z,some (V.ref a)])
   ⟨az.refl _,Kw _,⟨[],rfl,rfl,λj b p' h=>by simp at h⟩,_,rfl⟩ (λi acc σ H' h=>by obtain⟨_,h1,⟨bs,rfl,h2,_⟩,_⟩:=h;rw[J_,h2];exact Kq (KG _) (al ⋯)) (λi acc σ H' h=>h.2.1) (λi acc σ H' h=>bh.of (h.1 _ _ e1)) ?_ ?_
  ·rintro i x acc σ H2 hx ⟨sm,hil,⟨bs,rfl,hbl,hbs⟩,z,rfl⟩
   obtain⟨t',ht',hx'⟩:=sH htr hx;obtain⟨p',pc',hp',sd',dp',_,hdn,hcn⟩:=kid i t' ht';have s2:=s1.trans sm;walk_at "wp";refine⟨CT,dx,_,s2 _ _ te.at_,ct.cl,nt.1,_,rfl,g,x,rs,t',p',pc',rfl,⟨dg,sg,st,as,_,_,te.gr.up s2,hgd,te.n24,hx'.up (ij.of s2) _,sd'.gr,⋯⟩,sd',λb H5 hb s5=>⟨sm.trans s5,(J8.mp hx).1,bs++[b],by rw[Kj];rfl,by rw[Ku,hbl];rfl,λj b' p2 e1 e2=>?_⟩⟩;rcases Nat.lt_or_ge j bs.length with hj | hj
   ·rw[Kt hj]at e1
    exact s5 _ _ (hbs j b' p2 e1 e2)
   ·have:j=bs.length:=by have:=(J8.mp e1).1;simp at this;omega
    subst this;rw[Ks (Kv _),Nat.sub_self]at e1;cases e1;rw[hbl,hp']at e2;cases e2;exact hb
  ·rintro acc σ H2 ⟨sm,_,⟨bs,rfl,hbl,hbs⟩,z,rfl⟩ l hl
   refine h1 _ _ ?_;clear h1;have s2:=(s1.trans sm).trans (ae (o:=.lst (bs.map V.ref)) hl);have hT:qw (ax H2 l (.lst (bs.map V.ref))) l ps:=⟨bs,ac,⋯,λi b p' e1 e2=>ae hl _ _ (hbs i b p' e1 e2)⟩;generalize ax H2 l (.lst (bs.map V.ref))=H3 at s2 hT ⊢;clear hbs;walk_at "n";refine h1 _ _ ?_;walk_at "nc";have hta3:=s2 _ _ hta;refine⟨_,bh.of hta3,oX _ _,λpu hpu=>?_⟩;rw[Ej];have s3:=ae (o:=.tup vs) hpu;have e3:ax H3 pu (.tup vs) pu=some (.tup vs):=ac;generalize ax H3 pu (.tup vs)=H4 at s3 e3 ⊢;have s03:=s2.trans s3;have te4:=te.up s03;have hT4:=hT.kp (Kp.of s3);obtain⟨cs,hcs,hcl,hce⟩:=id hT4;have htr4:=aR.up (ij.of s03) _ htr;refine⟨_,aS.of hcs,_,bh.of e3,?_⟩;refine Bc (xs:=cs.map V.ref) (ys:=vs) (by rw[J_];omega) (λi σ H'=>bV d1 d2 H4 H'/\dI st rs m H' d1 d2/\i<=cs.length/\∃(wi:Nat) (y z:Option V),(bt (RT rs) (ps.take i))[wi]?=some (t.ps.take i)/\σ=[some (V.ref a),some (V.ref ta),some (V.ref l),some (V.int (wi:Int)),y,z,none,none,none,none])
    ⟨λ_ _ _ _ e=>e,te4.mm,Kw _,0,_,_,by rw[K2,K2];rfl,rfl⟩ (λi σ H' _ h=>⟨aS.of ((te4.kp h.1).lst hcs),bh.of ((te4.kp h.1).tup e3)⟩) ?_ ?_
   ·rintro i x y σ H5 T hx hy ⟨sD,mm,hil,wi,z1,z2,hwi,rfl⟩ hT5
    have hlt:i<cs.length:=by have:=(J8.mp hx).1;rwa [J_]at this
    rw[Ka,J7 hlt]at hx;cases hx;obtain⟨t',ht',hx'⟩:=sH htr4 hy;obtain⟨p',pc',hp',sd',dp',hk15,hdn,hcn⟩:=kid i t' ht';have hb:=hce i cs[i] p' (J7 hlt) hp';generalize cs[i]'hlt=b at hb ⊢;have sT:=ae (o:=.tup [V.ref b,y]) hT5;have eT:ax H5 T (.tup [V.ref b,y]) T=some (.tup [V.ref b,y]):=ac;generalize ax H5 T (.tup [V.ref b,y])=H6 at sT eT ⊢;have te5:=te4.next sD mm;have te6:=te5.up sT;have sd46:bV d1 d2 H4 H6:=sD.trans (.of sT);walk_at "wp";have hi2:i=0\/i=1:=by omega
    have ycc:=ce te.gc (dp'.row te.m6);refine⟨_,bh.of eT,rfl,_,_,rfl,_,_,rfl,rfl,dx,_,te6.at_,rfl,a,dx,g,dg,d1,d2,b,sg,st,as,rs,m,p',rfl,te6,(te4.kp sd46).tup hb,.inl ⟨dp',nofun,⋯,λH7 s7 mm7=>⟨_,rfl,?_,dx,_,(te6.next s7 mm7).at_,rfl,a,dx,g,dg,d1,d2,sg,st,as,rs,m,y,t',p',pc',rfl,te6.next s7 mm7,hx'.up (λb xs e=>(te4.kp (sd46.trans s7)).tup e) _,hdn,hgd,sd',dp',λk H8 hk s8 mm8=>⟨_,rfl,(sd46.trans s7).trans s8,mm8,hlt,wi*CN rs p'+k,?_,by push_cast;rfl⟩⟩⟩⟩
    ·rcases hi2 with rfl | rfl
     ·left
      have:wi=0:=by
       rw[K2]at hwi;cases wi with
       |zero=>rfl
       |succ w=>simp[bt]at hwi
      omega
     ·obtain⟨p1,p2,rfl⟩:∃p1 p2,ps=[p1,p2]:=by
       match ps,hp2,(show 1<ps.length by omega) with
       | [p1,p2],_,_=>exact⟨p1,p2,rfl⟩
      cases hp';have dp1:=(dp.part te.gc (Kb hq) (by have:=bP ok.r1 ok.c1;omega) hpr (p':=p1) (by simp)).1;rcases D0 q4 qc ok hpr with h | h
      ·left
       have h64:=te.sm p1 dp1.rm dp1.cm h;have hw:(bt (RT rs) [p1])[wi]?=some (t.ps.take 1):=hwi;rw[ir]at hw;obtain⟨t1,ht1,_⟩:=Kz.mp hw;have:=(J8.mp ht1).1;rw[ce te.gc (dp1.row te.m6)]at this;omega
      ·right
       have:=te.sm _ dp'.rm dp'.cm h;omega
    ·rw[qg hp',qg ht',<- ycc]
     exact Ac (by rw[KM];omega) hwi hk
   ·rintro σ H5 ⟨sD,mm,_,wi,z1,z2,hwi,rfl⟩
    refine h1 _ _ ?_;walk_at "nc";refine h1 _ _ ?_;walk_at "nc";have te5:=te4.next sD mm;have kp5:=te4.kp sD;refine⟨dx,_,te5.at_,rfl,CT,dx,_,te5.at_,ct.cl,nt.1,_,rfl,g,_,rs,t,p,pc,rfl,⟨dg,sg,st,as,_,_,te5.gr,hgd,te.n24,ht.up (λb xs e=>kp5.tup (s03 _ _ e)) _,sd.gr,⋯⟩,sd,λb H6 hb s6=>?_⟩;refine⟨a,dx,g,dg,d1,d2,b,sg,st,as,rs,m,p,rfl,te5.up s6,hb,.inl ⟨dp,nofun,⋯,λl2 H7 s7 mm7 _ hZ=>?_⟩⟩;have sD7:bV d1 d2 H H7:=(((bV.of s03).trans sD).trans (.of s6)).trans s7;have te7:=(te5.up s6).next s7 mm7;have kp7:=te4.kp ((sD.trans (.of s6)).trans s7);have hT7:=hT4.kp kp7;have hta7:H7 ta=some (.tup (V.int t.i::vs)):=kp7.tup (s3 _ _ hta3);rw[J_,hcl,KL,show ps.length=t.ps.length from hpl,KL]at hwi;have hsl:=nA te.gc ok te.n24;obtain⟨ts,o,hts,htl,hte⟩:=id hZ;refine⟨l2,rfl,⟨_,.inl (.inr ⟨o,hts⟩)⟩,?_⟩;refine dn (xs:=ts.map V.ref) (λi σ H'=>az H7 H'/\(i<=ts.length/\∀(j:Nat) s,j<i->(aN rs p)[j]?=some s->¬ (s.1=nn/\s.2.1=ps))/\∃x y z,σ=[some (V.ref a),some (V.ref ta),some (V.ref l),some (V.int (wi:Int)),z1,z2,some (V.int ((((aN rs p).take i).map λs=>s.2.2).sum:Nat)),x,y,z])
     ⟨az.refl _,⟨Kw _,λj s h=>absurd h ⋯⟩,_,_,_,rfl⟩ (λi σ H' _ h=>.inl (.inr ⟨o,h.1 _ _ hts⟩)) ?_ ?_
    ·rintro i x σ H8 hx ⟨s8,⟨hil,hno⟩,x1,y1,w1,rfl⟩
     have hlt:i<ts.length:=by have:=(J8.mp hx).1;rwa [J_]at this
     rw[Ka,J7 hlt]at hx;cases hx;obtain⟨s0,hs0⟩:∃s,(aN rs p)[i]?=some s:=⟨_,J7 ⋯⟩;obtain⟨rl,he,hTz⟩:=hte i _ s0 (J7 hlt) hs0;generalize ts[i]'hlt=t0 at he;have hsn:=rV (λs:uy=>s.2.2) _ _ _ hs0;have hTz8:=hTz.kz (Kp.of s8).z;have hT8:=hT7.kp (Kp.of s8);generalize hps:(((aN rs p).take i).map λs=>s.2.2).sum=pas at hsn;walk_at "wp";refine⟨_,bh.of (s8 _ _ he),rfl,_,_,rfl,_,_,rfl,_,_,rfl,rfl,al nofun,λu1 hu1=>?_⟩;have s9:=ae (o:=.tup [V.int (s0.1:Int),V.ref rl]) hu1;have e9:ax H8 u1 (.tup [V.int (s0.1:Int),V.ref rl]) u1=some (.tup [V.int (s0.1:Int),V.ref rl]):=ac;generalize ax H8 u1 (.tup [V.int (s0.1:Int),V.ref rl])=H9 at s9 e9 ⊢;refine⟨_,bh.of (s9 _ _ (s8 _ _ hta7)),_,wj _ _,al nofun,λu2 hu2=>?_⟩;have s10:=ae (o:=.tup [V.int t.i,V.ref l]) hu2;have e10:ax H9 u2 (.tup [V.int t.i,V.ref l]) u2=some (.tup [V.int t.i,V.ref l]):=ac;generalize ax H9 u2 (.tup [V.int t.i,V.ref l])=H10 at s10 e10 ⊢;have sA:=s9.trans s10;refine⟨_,_,_,bh.of (s10 _ _ e9),_,bh.of e10,_,(hTz8.kz (Kp.of sA).z).fl,_,(hT8.kp (Kp.of sA)).fl,?_⟩;have key:(decide ((s0.1:Int)=t.i)&&oK (s0.2.1.map cL) (ps.map cL))=true↔(s0.1=nn/\s0.2.1=ps):=by
      rw[Bool.and_eq_true,decide_eq_true_eq,zm,hi];exact⟨λh=>⟨⋯,h.2⟩,λh=>⟨⋯,h.2⟩⟩
     by_cases hk:s0.1=nn/\s0.2.1=ps
     ·rw[if_pos (key.mpr hk)]
      refine h1 _ _ ?_;walk_at "wp";have hget:=BS te.gc ok hs0 (j:=wi) (ts:=t.ps) (by rw[hk.2];exact hwi);rw[hps,hk.1,<- hi,yC]at hget;have sB:=s8.trans sA;have:=q (pas+wi) H10 hget (sD7.trans (.of sB)) (te7.up sB).mm
      push_cast at this
      exact this
     ·rw[if_neg (λh=>hk (key.mp h))]
      refine⟨_,rfl,s8.trans sA,hlt,λj s hj hs=>?_,by rw[hsn];push_cast;rfl⟩;rcases Nat.lt_or_ge j i with h | h
      ·exact hno j s h hs
      ·have:j=i:=by omega
       subst this;rw[hs0]at hs;cases hs;exact hk
    ·rintro σ H8 ⟨_,⟨_,hno⟩,_⟩
     have h0:0<aJ (CN rs) ps:=by
      have:=(J8.mp hwi).1;rw[eV (g:=CN rs) λp' hp'=>ce te.gc ((dp.part te.gc (Kb hq) (by have:=bP ok.r1 ok.c1;omega) hpr hp').1.row te.m6)]at this;omega
     obtain⟨j,hj⟩:=List.getElem?_of_mem (yp hq hnm hpr h0 hlow.1);exact absurd ⟨rfl,rfl⟩ (hno j _ (by rw[J_,htl];exact(J8.mp hj).1) hj)
theorem vO{R:RC}{f CG CT:Addr}{fd:Lc}(F:cy K "number_in" "TreeRows.number_in" bO f fd):aQ P w K mg base (bz P w) 73 f fd ["self","tree"] (bY R CG CT 0):=by
 have no:∀{vs:List V} {H:Hp} {Q:VK} {E:XK},¬ bY R CG CT 0 vs H Q E:=λh=>by
  obtain⟨a,dx,g,dg,d1,d2,sg,st,as,rs,m,v,t,p,pc,_,_,_,h0,_⟩:=h;exact absurd t.dep1 ⋯
 exact F.okX (k:=72) (sp:=bY R CG CT 0) i_ (λvs H Q E h=>absurd h no) (λcdv A outer s H vs Q E hr h=>absurd h no)
theorem k7{R:RC}{f CG CT yaa:Addr}{fd:Lc}(F:cy K "number_in" "TreeRows.number_in" bO f fd)(nb:NB mg)(ct:fD K CT)(nt:aq K CT "grammar"/\aq K CT "steps"/\aq K CT "totals")(me:cN K CT "number_in" f)(b:cn K fd ["self","tree"] [])(yaw:eR P w K mg base bG 26 "row_of" ["grammar","tree"] (mS R CG))
  (yaj:bX P w K mg base (bz P w) 71 CT "steps_of" ["self","row"] (bR R CG CT yaa 17)) (yaf:bX P w K mg base (bz P w) 72 CT "many_in" ["self","row"] (bo R CG CT yaa 17)) :
  ∀n,n<=18->bX P w K mg base (bz P w) (73+n) CT "number_in" ["self","tree"] (bY R CG CT n)
 |0,_=>⟨f,fd,vO F,ct.cl,me,b⟩
 |n+1,h=>⟨f,fd,ow ⋯ F nb ct nt yaw yaj yaf (k7 F nb ct nt me b yaw yaj yaf n ⋯),ct.cl,me,b⟩
theorem x4{R:RC}{CG CT x dx g dg d1 d2:Addr}{H H2:Hp}{sg st:K7}{as:La}{rs:Yaa}{m:Nat}(gr:dC R H CG dg g sg st as rs)(ok:so st rs m)(s2:az H H2)(n12:d1≠d2)(ex:H2 x=some (.ins CT dx (Ga g d1 d2)))(ed1:H2 d1=some (.dT []))(ed2:H2 d2=some (.dT [])):gv R CG CT H2 x dx g dg d1 d2 sg st as rs m:=
 ⟨ex,n12,gr.up s2,ok.gc,ok.gt,ok.sm,ok.m6,ok.n24,ok.nz,[],[],ed1,ed2,⟨List.nodup_nil,List.nodup_nil,(λk h=>nomatch h),(λk h=>nomatch h),(λp h=>by cases h)⟩,λp v h=>by cases h⟩
noncomputable abbrev mV:Stmt:=iZ 44
inductive pj(R:RC)(CG CN_ CU_:Addr)(vs:List V)(H:Hp)(Q:VK)(E:XK):Prop
 |mk (g dg:Addr) (sg st:K7) (as:La) (rs:Yaa) (m:Nat) (p:TR) (k:Int) (_:vs=[.ref g,.str (tx p.1),.int (p.2.1:Int),.int (p.2.2.1:Int),.int p.2.2.2,.int k]) (_:dC R H CG dg g sg st as rs) (_:so st rs m) (_:((qR st rs m p/\(∀(j:Nat) t,k=(j:Int)->(RT rs p)[j]?=some t->∀v H',az H H'->b5 H' t.d v->Q v H')/\((k<0\/(CN rs p:Int)<=k)->∀H',az H H'->E (.ref CU_) none H'))\/(tx p.1∉(aY (tx st) rs).map (·.1)/\∀H',az H H'->E (.ref CN_) none H')))
theorem wM:av ["grammar","name","rows","columns","cost","k"] ["grammar","name","rows","columns","cost","k"] (ai mV):=by walk_at "c"
theorem xM{R:RC}{f CG CT yaa yac:Addr}{fd:Lc}(F:cy K "tree_at" "tree_at" mV f fd)(nb:NB mg)(ct:fD K CT)(nt:aq K CT "grammar"/\aq K CT "steps"/\aq K CT "totals")
  (yak:kT P w K mg base bG 1 "TreeRows" CT ["self","grammar"] (eS K)) (yau:bX P w K mg base (bz P w) 107 CT "tree_in" ["self","row","k"] (b8 R CG CT yaa yac 17)) :
  aQ P w K mg base (bz P w) 108 f fd ["grammar","name","rows","columns","cost","k"] (pj R CG yaa yac):=by
 have sc:=wM;walk_at "x"
 ·obtain⟨g,dg,sg,st,as,rs,m,p,k,rfl,_⟩:=h;rfl
 ·obtain⟨g,dg,sg,st,as,rs,m,p,k,rfl,gr,ok,cs⟩:=h
  have hu:=hr.units;refine⟨_,(ah (aE (bJ yau (hr.mono nofun) (aV λ_ _ _ h=>h) (fQ yak (hr.mono nofun) rfl ba (aa (ak 0) ad)) (aa (aL (aa (ak 1) (aa (ak 2) (aa (ak 3) (aa (ak 4) ad))))) (aa (ak 5) ad))))),?_⟩;walk_at "wp";intro x dx hx hdx hne;have sm1:az H (ax (ax H dx (.own x)) x (.ins CT dx [])):=(ae hdx).trans (ae (by rw[ao (Ne.symm hne)];exact hx));refine⟨x,CT,dx,g,rfl,ac,ct.cl,nt,λd1 d2 H2 f1 f2 n12 ex ed1 ed2 sx=>⟨rfl,dx,_,ex,rfl,al nofun,λb hb=>?_⟩⟩;have s2:az H H2:=λy u e=>sx y u (aC e hx) (sm1 y u e);have s3:=ae (o:=.tup (cL p)) hb;have s03:=s2.trans s3;have te:gv R CG CT (ax H2 b (.tup (cL p))) x dx g dg d1 d2 sg st as rs m:=x4 gr ok s03 n12 (s3 _ _ ex) (s3 _ _ ed1) (s3 _ _ ed2);have fin:∀{H4},bV d1 d2 (ax H2 b (.tup (cL p))) H4->az H H4:=λsd y u e=>sd y u (λz=>by rw[z,sm1.free f1]at e;cases e) (λz=>by rw[z,sm1.free f2]at e;cases e) (s03 y u e);refine⟨x,dx,g,dg,d1,d2,b,sg,st,as,rs,m,p,k,rfl,te,ac,nofun,?_⟩;rcases cs with⟨dp,q,bad⟩ | ⟨nn,ex'⟩
  ·exact .inl ⟨dp,by have:=dp.k16;omega,λj t hj ht v H4 sd mm hv=>q j t hj ht v H4 (fin sd) hv,λhk H4 sd mm=>bad hk H4 (fin sd)⟩
  ·exact .inr ⟨nn,ex' _ s03⟩
noncomputable abbrev jm:Stmt:=iZ 45
inductive lZ(R:RC)(CG:Addr)(vs:List V)(H:Hp)(Q:VK)(_E:XK):Prop
 |mk (g dg:Addr) (sg st:K7) (as:La) (rs:Yaa) (m:Nat) (v:V) (t:bD) (p:TR) (pc:bF) (_:vs=[.ref g,v]) (_:dC R H CG dg g sg st as rs) (_:so st rs m) (_:(∀r∈rs,dD r)) (_:b5 H t.d v) (_:Sd rs t p pc) (_:qR st rs m p) (_:∀(k:Nat) H',(RT rs p)[k]?=some t->az H H'->Q (.int (k:Int)) H')
theorem uX:av ["grammar","tree"] ["grammar","tree"] (ai jm):=by walk_at "c"
theorem tW{R:RC}{f CG CT:Addr}{fd:Lc}(F:cy K "number_of" "number_of" jm f fd)(nb:NB mg)(ct:fD K CT)(nt:aq K CT "grammar"/\aq K CT "steps"/\aq K CT "totals")
  (yaq:eR P w K mg base bG 24 "laid" ["grammar","tree"] (oQ R CG)) (yak:kT P w K mg base bG 1 "TreeRows" CT ["self","grammar"] (eS K)) (yaM:bX P w K mg base (bz P w) 89 CT "number_in" ["self","tree"] (bY R CG CT 16)) :
  aQ P w K mg base (bz P w) 90 f fd ["grammar","tree"] (lZ R CG):=by
 have sc:=uX;walk_at "x"
 ·obtain⟨g,dg,sg,st,as,rs,m,v,t,p,pc,rfl,_⟩:=h;rfl
 ·obtain⟨g,dg,sg,st,as,rs,m,v,t,p,pc,rfl,gr,ok,hgd,ht,sd,dp,q⟩:=h
  have hu:=hr.units;refine⟨_,(af (bv (aI (CX:=bz P w) yaq.lift (hr.mono nofun) rfl bc (aa (ak 0) (aa (ak 1) ad))))
   (ah (aE (bJ yaM (hr.mono nofun) (aV λ_ _ _ h=>h) (fQ yak (hr.mono nofun) rfl ba (aa (ak 0) ad)) (aa (ak 1) ad))))),?_⟩
  have hdc:=t.dep_cnt;have hlow:=(sd.low hgd).2;have:=dp.k16;walk_at "n";refine⟨g,v,rs,t.d,pc,p.2.2.2,rfl,⟨dg,sg,st,as,_,_,gr,hgd,ok.n24,ht,sd.gr,⋯⟩,λl0 H1 _ e1 s1=>h1 _ _ ?_⟩;clear h1;walk_at "wp";intro x dx hx hdx hne;have sm1:az H1 (ax (ax H1 dx (.own x)) x (.ins CT dx [])):=(ae hdx).trans (ae (by rw[ao (Ne.symm hne)];exact hx));refine⟨x,CT,dx,g,rfl,ac,ct.cl,nt,λd1 d2 H2 f1 f2 n12 ex ed1 ed2 sx=>⟨rfl,dx,_,ex,rfl,?_⟩⟩;have s2:az H1 H2:=λy u e=>sx y u (aC e hx) (sm1 y u e);have s02:=s1.trans s2;have te:gv R CG CT H2 x dx g dg d1 d2 sg st as rs m:=x4 gr ok s02 n12 ex ed1 ed2;have fin:∀{H4},bV d1 d2 H2 H4->az H H4:=λsd y u e=>sd y u (λz=>by rw[z,(s1.trans sm1).free f1]at e;cases e) (λz=>by rw[z,(s1.trans sm1).free f2]at e;cases e) (s02 y u e);exact⟨x,dx,g,dg,d1,d2,sg,st,as,rs,m,v,t,p,pc,rfl,te,ht.up (ij.of s02) _,⋯,hgd,sd,dp,λk H4 hk sd mm=>q k H4 hk (fin sd)⟩
theorem zw{R:RC}{CG CT yaa f1 f2 f3 f4:Addr}{fd1 fd2 fd3 fd4:Lc}{t1:Tok}(F1:cy K "many_in" "TreeRows.many_in" b7 f1 fd1)(F2:cy K "steps_of" "TreeRows.steps_of" b_ f2 fd2)(F3:cy K "reckoned" "TreeRows.reckoned" b9 f3 fd3)(F4:cy K "many_together" "TreeRows.many_together" bj f4 fd4)
  (nb:NB mg) (yam:mg "sum"=none) (yah:mg "MOST"=some (.int 6 t1)) (ct:fD K CT) (nt:aq K CT "grammar"/\aq K CT "steps"/\aq K CT "totals") (me1:cN K CT "many_in" f1) (me2:cN K CT "steps_of" f2) (me3:cN K CT "reckoned" f3) (me4:cN K CT "many_together" f4)
  (b1:cn K fd1 ["self","row"] []) (b2:cn K fd2 ["self","row"] []) (b3:cn K fd3 ["self","row"] []) (b4:cn K fd4 ["self","rows"] [])
  (yai:eR P w K mg base bG 1 "fewest" ["size"] (ik K)) (yan:bX P w K mg base (bz P w) 1 CG "numbers_of" ["self","name"] (cq R CG yaa)) (yad:bX P w K mg base bG 1 CG "rule" ["self","k"] (b6 R CG)) (yap:oG P w K mg base bG 3 "part_rows" (k6 R)) :
  bX P w K mg base (bz P w) 71 CT "steps_of" ["self","row"] (bR R CG CT yaa 17):=by
 have ih:=jM F1 F2 F3 F4 nb yam yah ct nt me1 me2 me3 me4 b1 b2 b3 b4 yai yan yad yap 16;have c4:bX P w K mg base (bz P w) 69 CT "many_together" ["self","rows"] (cD R CG CT 16):=⟨f4,fd4,fO (n:=16) F4 nb ih,ct.cl,me4,b4⟩;have c3:bX P w K mg base (bz P w) 70 CT "reckoned" ["self","row"] (eO R CG CT yaa 17):=⟨f3,fd3,jW (n:=16) F3 nb yah ct nt yai yan yad yap c4,ct.cl,me3,b3⟩;exact⟨f2,fd2,jz (n:=16) F2 nb yam ct nt c3,ct.cl,me2,b2⟩
noncomputable abbrev nh:Stmt:=iZ 59
inductive pU(K:W.Frag)(vs:List V)(H:Hp)(Q:VK)(_E:XK):Prop
 |mk (a:Addr) (ns:List Int) (b m:Nat) (_:vs=[.ref a,.int (b:Int),.int (m:Int)]) (_:aS K H a (ns.map V.int)) (_:b<=100) (_:1<=m) (_:m<=100) (_:∀(l:Addr) (cs:List Int) (H':Hp),H l=none->H' l=some (.lst (cs.map V.int))->1<=cs.length->cs.length<=m->az H H'->Q (.ref l) H')
theorem xr:av ["_law_script","_law_begin","_law_most","_law_many"] ["_law_script","_law_begin","_law_most"] (ai nh):=by walk_at "c"
theorem xX{f:Addr}{fd:Lc}(F:cy K "_law_cells" "_law_cells" nh f fd)(nb:NB mg)(zDa:eR P w K mg base bG 1 "_law_cell" ["_law_script","_law_k"] (nI K)):aQ P w K mg base bG 2 f fd ["_law_script","_law_begin","_law_most"] (pU K):=by
 have sc:=xr;walk_at "f"
 ·obtain⟨a,ns,b,m,rfl,_⟩:=h;rfl
 ·obtain⟨a,ns,b,m,rfl,ha,hb,hm1,hm,q⟩:=h
  refine⟨_,(af (aB (i:=3) sc.nd rfl (Or.inl rfl) (aw (bd.m0 eX) (ak 2) (aw (bd.m1 ck) (aw (bd.m1 bI) (aI zDa (hr.mono nofun) rfl ba (aa (ak 0) (bK ad))) (ak 2)) aj)))
   (ah (aE (cH ["_law_k"] [0] rfl (bB.of (by kernel_rfl)) (by kernel_rfl) (ib rfl nb.range (aa (ak 1) (aa (aw (bd.m0 bN) (ak 1) (ak 3)) ad)))
    (λ_ _ _ _=>(ay (i:=0) (by show(["_law_k","_law_script"]:List Str).Nodup;decide +kernel) rfl (Or.inl rfl))) (λ_ _ _ _=>bU) (λ_ _ _ _=>(aI zDa (hr.mono nofun) rfl ba (aa (ak 1) (aa (ak 0) ad)))))))),?_⟩
  walk_at "n";refine⟨a,ns,62,rfl,ha,⋯,λc=>⟨_,rfl,⋯,h1 _ _ ?_⟩⟩;clear h1;obtain⟨n,hn⟩:∃n:Nat,(m:Int)-c%(m:Int)/2=(n:Int):=⟨((m:Int)-c%(m:Int)/2).toNat,by have:=KY c (b:=(m:Int)) ⋯;have:=KZ c (b:=(m:Int)) ⋯;omega⟩;have hn2:1<=n/\n<=m:=by have:=KY c (b:=(m:Int)) ⋯;have:=KZ c (b:=(m:Int)) ⋯;omega
  rw[hn];walk_at "wp";refine⟨⋯,⋯,⋯,⋯,?_⟩;rw[show((b:Int)+(n:Int)-(b:Int)).toNat=n by omega];refine fh (λi acc σ H'=>az H H'/\i<=n/\(∃cs:List Int,acc=cs.map V.int/\cs.length=i)/\∃z,σ=[z,some (V.ref a)]) ⟨λ_ _ e=>e,Kw _,⟨[],rfl,rfl⟩,_,rfl⟩ ?_ (λi acc σ H' h=>h.2.1) ?_ ?_
  ·rintro i acc σ H' ⟨_,hi,⟨cs,rfl,hc⟩,_⟩
   rw[J_,hc];exact bf ⋯
  ·rintro i acc σ H' hi ⟨sm,_,⟨cs,rfl,hc⟩,z,rfl⟩
   walk_at "wp";exact⟨a,ns,b+i,by simp,sm.seq ha,⋯,λc=>⟨sm,hi,⟨cs++[c],by simp,by simp[hc]⟩⟩⟩
  rintro acc σ H4 ⟨s4,_,⟨cs,rfl,hc⟩,_⟩;intro l hl;exact q l cs _ (s4.free hl) ac ⋯ ⋯ (s4.trans (ae hl))
noncomputable abbrev j6:Stmt:=iZ 64
inductive l9(R:RC)(CG:Addr)(vs:List V)(H:Hp)(Q:VK)(_E:XK):Prop
 |mk (l:Addr) (sg st:K7) (ts:La) (rs:Yaa) (_:vs=[.str (tx sg),.str (tx st),.ref l]) (_:h_ H l ts rs) (_:(∀r∈rs,dD r)) (_:rs.length<=24) (_:sg.length<=100) (_:st.length<=100) (_:hU sg st rs=none) (_:∀b db as H',dC R H' CG db b sg st as rs->az H H'->Q (.ref b) H')
theorem tE:av ["_law_signs_here","_law_start","_law_rules"] ["_law_signs_here","_law_start","_law_rules"] (ai j6):=by walk_at "c"
theorem tF{R:RC}{f CG zda:Addr}{fd:Lc}(F:cy K "_law_grammar" "_law_grammar" j6 f fd)(nb:NB mg)(gk:Hj K CG)(zBe:eR P w K mg base bG 6 "_law_rule" ["_law_rule_here"] (nC R))(zFc:kT P w K mg base (bz P w) 4 "Grammar" CG ["self","signs","start","rules"] (i5 K R zda)):aQ P w K mg base bG 7 f fd ["_law_signs_here","_law_start","_law_rules"] (l9 R CG):=by
 have sc:=tE;walk_at "f"
 ·obtain⟨l,sg,st,ts,rs,rfl,_⟩:=h;rfl
 ·obtain⟨l,sg,st,ts,rs,rfl,o,hg,hn,hsg,hst,g0,q⟩:=h
  refine⟨_,(ah (aE (fQ (CX:=bz P w) zFc (hr.mono nofun) rfl bc (aa (pv 0) (aa (pv 1) (aa (cH ["_law_rule_here"] [] rfl (bB.of (by kernel_rfl)) (by kernel_rfl) (cE (pv 2))
    (λ_ _ _ _=>(ay (i:=0) (by show(["_law_rule_here"]:List Str).Nodup;decide +kernel) rfl (Or.inl rfl))) (λ_ _ _ _=>bU) (λ_ _ _ _=>(aI zBe (hr.mono nofun) rfl ba (aa (pv 0) ad)))) ad)))))),?_⟩
  walk_at "wp";refine⟨⟨_,aS.of o.1⟩,wZ o hg ⋯ λas H2 s2 hA lr hlr x dx hx hdx hne=>?_⟩;have s3:az H2 (ax H2 lr (.lst (as.map V.ref))):=ae hlr;have e3:ax H2 lr (.lst (as.map V.ref)) lr=some (.lst (as.map V.ref)):=ac;generalize ax H2 lr (.lst (as.map V.ref))=H3 at s3 e3 hx hdx ⊢;have sm4:az H3 (ax (ax H3 dx (.own x)) x (.ins CG dx [])):=(ae hdx).trans (ae (by rw[ao (Ne.symm hne)];exact hx));refine⟨x,CG,dx,lr,sg,st,as,rs,rfl,ac,gk.cl.cl,gk.na,⋯,⋯,sm4 _ _ e3,(hA.up s3).up sm4,λr hr=>(hg r hr).k4,⋯,(λ_ H4 lk pn t sx gA _ _ _=>⟨rfl,?_⟩),λy hy=>nomatch hy.symm.trans g0⟩;exact q x dx _ H4 gA.f ((s2.trans s3).trans λb u e=>sx b u (aC e hx) (sm4 b u e))
noncomputable abbrev lN:Stmt:=iZ 65
inductive n6(K:W.Frag)(vs:List V)(H:Hp)(Q:VK)(_E:XK):Prop
 |mk (a:Addr) (p:bF) (r c t:Nat) (_:vs=[.ref a,.int (t:Int)]) (_:H a=some (.lst (aD p))) (_:fg p r c) (_:0<r) (_:0<c) (_:r<=64) (_:c<=64) (_:t<8) (_:∀l H',H l=none->H' l=some (.lst (aD (turned p t)))->az H H'->Q (.ref l) H')
theorem vI:av ["_law_picture","_law_t","_law_turn","_law_rows","_law_column"] ["_law_picture","_law_t"] (ai lN):=by walk_at "c"
theorem vg{f:Addr}{fd:Lc}(F:cy K "_law_turned" "_law_turned" lN f fd)(nb:NB mg):aQ P w K mg base bG 1 f fd ["_law_picture","_law_t"] (n6 K):=by
 have sc:=vI;walk_at "f"
 ·obtain⟨a,p,r,c,t,rfl,_⟩:=h;rfl
 ·obtain⟨a,p,r,c,t,rfl,hS,hp,hr0,hc0,hr1,hc1,ht,q⟩:=h
  refine⟨_,(af (bE (aH (bd.m0 jo) (ak 1) aj (aO _))
   (ah (iF (i:=0) ["_law_row"] [] sc.nd rfl (Or.inl rfl) rfl  rfl (bB.of (by kernel_rfl)) (by kernel_rfl) (cE (ak 0))
    (λ_ _ _ _=>(ay (i:=0) (by show(["_law_row"]:List Str).Nodup;decide +kernel) rfl (Or.inl rfl))) (λ_ _ _ _=>bU) (λ_ _ _ _=>(pG rfl rfl nb.reversed (aa (ak 0) ad)))))
   aM)
   (af (bw PassesOwn.never rfl (dR rfl nb.range (aa (aw (bd.m1 bI) (ak 1) aj) ad)) (ay (i:=2) sc.nd rfl (Or.inl rfl))
   (af (aB (i:=3) sc.nd rfl (Or.inl rfl) (bH ad))
   (af (bw PassesOwn.never rfl (dR rfl nb.range (aa (aA aU rfl nb.len aW (aa (aF aZ (ak 0) aj (λ_ _=>rfl)) ad)) ad)) (ay (i:=4) sc.nd rfl (Or.inr rfl))
   (ah (bv (ic PySem.F.plainAttrs_list PySem.F.slot_list_append PySem.F.type_list_append dN (ak 3) (aa (ic PySem.F.plainAttrs_str PySem.F.slot_str_join PySem.F.type_str_join oP jX (aa (cH ["_law_row"] [4] rfl (bB.of (by kernel_rfl)) (by kernel_rfl) (wQ rfl nb.reversed (aa (ak 0) ad))
    (λ_ _ _ _=>(ay (i:=0) (by show(["_law_row","_law_column"]:List Str).Nodup;decide +kernel) rfl (Or.inl rfl))) (λ_ _ _ _=>bU) (λ_ _ _ _=>(aF nM (ak 0) (ak 1) (λ_ _=>rfl)))) ad)) ad)))))
   (ah (aB (i:=0) sc.nd rfl (Or.inl rfl) (ak 3))))))
   (ah (aE (d9 cK rfl nb.list iR (aa (ak 0) ad)))))),?_⟩
  refine am λN2 h2=>?_;have loop:∀(l2:Addr) (p':bF) (H2:Hp) (y1 y2 y3:Option V),H2 l2=some (.lst (aD p'))->az H H2->fg p' r c->turned p t=bu (t%4) p'->N2 [some (V.ref l2),some (V.int t),y1,y2,y3] H2:=by
   intro l2 p' H2 y1 y2 y3 hH2 sm2 hp' et;refine h2 _ _ ?_;clear h2;refine am λN3 h3=>?_;walk_at "wp";refine⟨⋯,⋯,?_⟩;have e4:((t:Int)%4).toNat=t%4:=by omega
   rw[e4];refine eW (lo:=0) (n:=t%4) (λi σ H3=>∃(l3:Addr) (x1 x2 x3:Option V),σ=[some (V.ref l3),some (V.int t),x1,x2,x3]/\H3 l3=some (.lst (aD (bu i p')))/\az H H3) ⟨l2,_,_,_,rfl,hH2,sm2⟩ ?_ ?_
   ·rintro i σ H3 hi ⟨l3,x1,x2,x3,rfl,h4,sm3⟩
    have hq:=cR i hp' hr0 hc0;obtain⟨r',c',g3,g4,g5,g6⟩:∃r' c',fg (bu i p') r' c'/\0<r'/\r'<=64/\c'<=64:=by
     by_cases hi2:i%2=0
     ·rw[if_pos hi2,if_pos hi2]at hq;exact⟨r,c,hq,hr0,hr1,hc1⟩
     ·rw[if_neg hi2,if_neg hi2]at hq;exact⟨c,r,hq,hc0,hc1,hr1⟩
    have hqa:bu (i+1) p'=fV (bu i p'):=(mG 1 i p').symm;generalize bu i p'=pq at h4 g3 hqa;have hl0:0<pq.length:=by rw[g3.1];exact g4
    have hcc:(pq[0]).length=c':=g3.2 _ (Kf hl0);have hh:(pq.headD []).length=c':=bp g3 g4;rw[hqa];walk_at "wp";refine⟨Kw _,λlr hlr=>?_⟩;have s4:=ae (o:=.lst []) hlr;have e4:ax H3 lr (.lst []) lr=some (.lst []):=ac;generalize ax H3 lr (.lst [])=H4 at s4 e4 ⊢;have h0:jl (aD pq) 0=some (V.str (tx pq[0])):=(show jl _ ((0:Nat):Int)=_ from bx (bb hl0));refine⟨_,aS.of (s4 _ _ h4),_,h0,_,rfl,by rw[au];exact al ⋯,by rw[au];omega,by rw[au];omega,?_⟩;rw[au,hcc,Kg];refine eW (lo:=0) (n:=c') (λj σ H5=>az H3 H5/\j<=c'/\H5 lr=some (.lst (aD ((List.range j).map (col pq))))/\∃y,σ=[some (V.ref l3),some (V.int t),some (V.int (i:Int)),some (V.ref lr),y]) ⟨s4,Kw _,e4,_,rfl⟩ ?_ ?_
    ·rintro j σ H5 hj ⟨s5,_,e5,y,rfl⟩
     have hl35:=s5 _ _ h4;walk_at "wp";have hrow:∀x∈pq,x.length=c':=g3.2;have hpq:pq.length<=64:=by rw[g3.1];exact g5
     refine⟨.inl ⟨rfl,_,aS.of e5⟩,rfl,_,aS.of hl35,vn (xs:=aD pq) (λn acc σ H'=>H'=H5/\acc=((pq.reverse.take n).map λr=>V.str ⟨#[r.getD j 0]⟩)/\n<=pq.length/\∃x,σ=[x,some (.int (j:Int))]) ⟨rfl,rfl,Kw _,_,rfl⟩ ?_ ?_ ?_ ?_ ?_⟩
     ·rintro n acc σ H' ⟨_,rfl,_⟩
      refine bf ?_;rw[J_,KM,Ko];omega
     ·rintro n acc σ H' ⟨_,_,h,_⟩
      rw[ar];exact h
     ·rintro n acc σ H' ⟨rfl,_⟩
      exact aS.of hl35
     ·rintro n x acc σ H' hx ⟨rfl,rfl,hn,y,rfl⟩
      have hl:n<pq.reverse.length:=by
       have:=(J8.mp hx).1
       rwa [Ko,ar,<- Ko (as:=pq)]at this
      have hx':(aD pq.reverse)[n]?=some x:=by unfold aD at hx ⊢;rwa [List.map_reverse]
      rw[bb hl]at hx';cases hx';have hm:pq.reverse[n]∈pq:=List.mem_reverse.mp (Kf hl);have hr:=hrow _ hm;walk_at "wp";have hc:(tx pq.reverse[n]).cps.toList[j]?=some (pq.reverse[n].getD j 0):=by rw[gK,List.getD_eq_getElem?_getD,J7 ⋯];rfl
      refine⟨by rw[au];exact al ⋯,_,bx hc,?_,by rw[Ko]at hl;exact hl⟩;rw[List.take_add_one,J7 hl,Kj]
      rfl
     ·rintro acc σ H' ⟨rfl,rfl,_⟩ l hl
      rw[ar,<- Ko (as:=pq),KL]at *;refine⟨(col pq j).map λc=>(⟨#[c]⟩:Str),.inl (aS.of ?_),?_,_,ae hl _ _ e5,?_,?_,hj,?_⟩
      ·rw[ac];unfold col;rw[Kl,Kl];rfl
      ·rw[Kl]
       have e:((λy:Str=>y.length)∘λc=>(⟨#[c]⟩:Str))=λ_=>1:=by funext c;rfl
       rw[e,List.map_const',List.sum_replicate_nat,J_];have e0:(Str.ofString "").length=0:=rfl;rw[e0];unfold col;rw[J_];omega
      ·rw[ar,J_,List.length_range];exact bf ⋯
      ·exact gg (s5.trans (ae hl)) hlr
      ·rw[ac,fY,List.range_succ,Kj]
       exact congrArg (λz=>some (HO.lst z)) (eN _ _).symm
    ·rintro σ H5 ⟨s5,_,e5,y,rfl⟩
     walk_at "wp";refine⟨?_,sm3.trans s5⟩;rw[e5];unfold fV;rw[hh]
   ·rintro σ H3 ⟨l3,x1,x2,x3,rfl,h4,sm3⟩
    refine h3 _ _ ?_;walk_at "wp";exact⟨_,.inl (aS.of h4),λl hl=>q l _ (sm3.free hl) (by rw[ac,et]) (sm3.trans (ae hl))⟩
  walk_at "wp";have hpl:p.length=r:=hp.1
  split
  ·rename_i h4
   refine⟨⟨_,aS.of hS⟩,?_⟩;refine gq (as:=p) (emb:=λx=>V.str (tx x)) (f:=λx=>some (V.str (tx x.reverse))) (λσ=>∃x,σ=[x]) ⟨_,rfl⟩ (λH' sm=>aS.of (sm _ _ hS)) ⋯ ?_ ?_
   ·rintro i x hx σ H' M1 M0 ⟨y,rfl⟩ sm k1 k0
    walk_at "wp";have hxl:x.length=c:=hp.2 x (Kb hx);refine⟨by rw[au];omega,nofun,k1 _ _ _ ?_ sm ⟨_,rfl⟩⟩;rw[gK,fY]
   ·intro H' sm l hl
    rw[j9];have em:p.map (λx=>V.str (tx x.reverse))=aD (fH p):=by unfold aD fH;rw[Kl];rfl
    rw[em];refine loop l (fH p) _ _ _ _ ac (sm.trans (ae hl)) (gJ hp) ?_;unfold turned;rw[if_pos ⋯]
  ·rename_i h4
   refine loop a p H _ _ _ hS (az.refl _) hp ?_;unfold turned;rw[if_neg ⋯]
noncomputable abbrev lK:Stmt:=iZ 66
inductive nZ(vs:List V)(H:Hp)(Q:VK)(_E:XK):Prop
 |mk (a b:Addr) (p q:bF) (r c r' c':Nat) (sd:Bool) (mo:Int) (_:vs=[.ref a,.ref b,.bl sd,.int mo]) (_:H a=some (.lst (aD p))) (_:H b=some (.lst (aD q))) (_:eF p r c) (_:eF q r' c') (_:mo<=6) (_:(∀pc,(∀v:RV,gu (if sd then 1 else 2) v [p,q]=some pc)->cQ H pc Q)) (_:∀H',az H H'->Q .non H')
theorem vB:av ["_law_one","_law_other","_law_side","_law_most"] ["_law_one","_law_other","_law_side","_law_most"] (ai lK):=by walk_at "c"
theorem u_{f:Addr}{fd:Lc}(F:cy K "_law_joined" "_law_joined" lK f fd)(nb:NB mg):aQ P w K mg base bG 1 f fd ["_law_one","_law_other","_law_side","_law_most"] nZ:=by
 have sc:=vB;walk_at "f"
 ·obtain⟨a,b,p,q,r,c,r',c',sd,mo,rfl,_⟩:=h;rfl
 ·obtain⟨a,b,p,q,r,c,r',c',sd,mo,rfl,ha,hb,hp6,hq6,hmo,fit,no⟩:=h
  have hp:=hp6.rc;have hq:=hq6.rc;have:=hp6.r6;have:=hp6.c6;have:=hq6.r6;have:=hq6.c6;have e1:=bp hp hp6.r0;have e2:=bp hq hq6.r0;refine⟨_,(af (bE (PW.pt (lP (lj (ak 2) λ_=>rfl) (lP (aH i' (aA a_ rfl nb.len aW (aa (ak 0) ad)) (aA a_ rfl nb.len aW (aa (ak 1) ad)) (aO _)) (l8 (aH (bd.m0 l6) (aw (bd.m0 bN) (aA aU rfl nb.len aW (aa (aF aZ (ak 0) aj (λ_ _=>rfl)) ad)) (aA aU rfl nb.len aW (aa (aF aZ (ak 1) aj (λ_ _=>rfl)) ad))) (ak 3) (aO _))))))
   (ah (aE (cH ["_law_left","_law_right"] [] rfl (bB.of (by kernel_rfl)) (by kernel_rfl) (Cb rfl nb.zip (aa (ak 0) (aa (ak 1) ad)))
    (λ_ _ _ _=>(sN (K:=K) (n:=2) rfl rfl (aK (ay (i:=0) (by show(["_law_left","_law_right"]:List Str).Nodup;decide +kernel) rfl (Or.inl rfl)) (aK (ay (i:=1) (by show(["_law_left","_law_right"]:List Str).Nodup;decide +kernel) rfl (Or.inl rfl)) cW)))) (λ_ _ _ _=>bU) (λ_ _ _ _=>(aw iM (ak 0) (ak 1))))))
   aM)
   (af (bE (PW.pt (lP (ly (lj (ak 2) λ_=>rfl)) (lP (aH i' (aA aU rfl nb.len aW (aa (aF aZ (ak 0) aj (λ_ _=>rfl)) ad)) (aA aU rfl nb.len aW (aa (aF aZ (ak 1) aj (λ_ _=>rfl)) ad)) (aO _)) (l8 (aH (bd.m0 l6) (aw (bd.m0 bN) (aA a_ rfl nb.len aW (aa (ak 0) ad)) (aA a_ rfl nb.len aW (aa (ak 1) ad))) (ak 3) (aO _))))))
   (ah (aE (aw yl (d9 cK rfl nb.list iR (aa (ak 0) ad)) (d9 cK rfl nb.list iR (aa (ak 1) ad)))))
   aM)
   (ah (aE nG)))),?_⟩
  obtain⟨hl0,hc0⟩:=fB hp hp6.r0;obtain⟨hl0',hc0'⟩:=fB hq hq6.r0;have yay:p.length=r:=hp.1;have yaL:q.length=r':=hq.1;have h0:jl (aD p) 0=some (V.str (tx p[0])):=(show jl _ ((0:Nat):Int)=_ from bx (bb hl0));have h0':jl (aD q) 0=some (V.str (tx q[0])):=(show jl _ ((0:Nat):Int)=_ from bx (bb hl0'));refine am λN1 h1=>?_;have uf:N1 [some (V.ref a),some (V.ref b),some (V.bl sd),some (V.int mo)] H:=by
   refine h1 _ _ ?_;clear h1;refine am λN1 h1=>?_;have uf:N1 [some (V.ref a),some (V.ref b),some (V.bl sd),some (V.int mo)] H:=by
    refine h1 _ _ ?_;walk_at "wp";exact no H (az.refl _)
   clear h1;walk_at "wp";cases sd with
   |true=>rw[if_neg nofun];exact uf
   |false=>
    rw[if_pos rfl];refine⟨_,aS.of ha,_,h0,_,rfl,by rw[au];exact al ⋯,_,aS.of hb,_,h0',_,rfl,by rw[au];exact al ⋯,?_⟩;rw[au,au,hc0,hc0'];refine fq (λt1=>?_) (λ_=>uf);refine⟨_,aS.of ha,_,aS.of hb,?_⟩;rw[ar,ar,yay,yaL];refine fq (λt2=>?_) (λ_=>uf);refine⟨_,.inl (aS.of ha),λl hl=>⟨_,.inl (aS.of (ae hl _ _ hb)),λl1 hl1=>⟨_,ae hl1 _ _ ac,_,ac,?_,λl2 hl2=>?_⟩⟩⟩
    ·rw[ar,ar];exact al ⋯
    have s3:=(ae (o:=.lst (aD p)) hl).trans (ae (o:=.lst (aD q)) hl1);refine fit (p++q) (λv=>?_) l2 _ (gG s3 hl2) ?_ (s3.trans (ae hl2))
    ·show(if(p.headD []).length=(q.headD []).length/\p.length+q.length<=6 then some (p++q) else none)=some (p++q)
     rw[e1,e2,if_pos ⋯]
    ·rw[ac];unfold aD;rw[Kj]
  clear h1;walk_at "wp";cases sd with
  |false=>rw[if_neg nofun];exact uf
  |true=>
   rw[if_pos rfl];refine⟨_,aS.of ha,_,aS.of hb,?_⟩;rw[ar,ar,yay,yaL];refine fq (λt1=>?_) (λ_=>uf);refine⟨_,aS.of ha,_,h0,_,rfl,by rw[au];exact al ⋯,_,aS.of hb,_,h0',_,rfl,by rw[au];exact al ⋯,?_⟩;rw[au,au,hc0,hc0'];refine fq (λt2=>?_) (λ_=>uf);refine⟨_,aS.of ha,_,aS.of hb,?_⟩;have hqr:q.length=r:=by omega
   have hput:(put2 p q).length=r:=by unfold put2;rw[J_,List.length_zip,yay,hqr,Nat.min_self]
   refine vT (xs:=aD p) (ys:=aD q) (n:=r) (by rw[ar,ar,yay,hqr,Nat.min_self]) (λi acc σ H'=>az H H'/\acc=aD ((put2 p q).take i)/\i<=r/\∃y z,σ=[y,z]) ⟨λ_ _ e=>e,rfl,Kw _,_,_,rfl⟩ ?_ ?_ ?_ ?_ ?_
   ·rintro i acc σ H' ⟨_,rfl,hi,_⟩
    rw[ar,KM];exact bf ⋯
   ·rintro i acc σ H' ⟨_,_,h,_⟩
    exact h
   ·rintro i acc σ H' ⟨sm,_⟩
    exact⟨aS.of (sm _ _ ha),aS.of (sm _ _ hb)⟩
   ·rintro i x y acc σ H' T hx hy ⟨sm,rfl,_,y1,z1,rfl⟩ hT
    have hi:i<p.length:=by have:=(J8.mp hx).1;rwa [ar]at this
    have hi':i<q.length:=by omega
    rw[bb hi]at hx;rw[bb hi']at hy;cases hx;cases hy;have hrow:=hp.2 _ (Kf hi);have ydF:=hq.2 _ (Kf hi');walk_at "wp";refine⟨_,bh.of ac,rfl,_,_,rfl,_,_,rfl,rfl,?_⟩;have e:(put2 p q)[i]?=some (p[i]++q[i]):=by
     unfold put2;simp[List.getElem?_zip_eq_some,hi,hi'];exact⟨_,_,⟨rfl,rfl⟩,rfl⟩
    have et:tx p[i]++tx q[i]=tx (p[i]++q[i]):=by
     show(⟨_++_⟩:Str)=⟨_⟩;simp[tx]
    refine⟨_,rfl,_,rfl,by rw[au,au];exact al ⋯,sm.trans (ae hT),?_,⋯⟩;rw[et,List.take_add_one,e];exact(eN _ _).symm
   ·rintro acc σ H' ⟨sm,rfl,_⟩ l hl
    refine fit (put2 p q) (λv=>?_) l _ (sm.free hl) ?_ (sm.trans (ae hl))
    ·show(if p.length=q.length/\(p.headD []).length+(q.headD []).length<=6 then some (put2 p q) else none)=some (put2 p q)
     rw[e1,e2,if_pos ⋯]
    ·rw[ac,<- hput,KL]
structure qm(r' r:Nat×RV):Prop where
 k:r'.1=r.1
 sg:r.1=0->r'.2.sg=r.2.sg
 o1:r.1≠0->r'.2.o1=r.2.o1
 o2:r.1=1\/r.1=2->r'.2.o2=r.2.o2
 t:r.1=3->r'.2.t=r.2.t
theorem qm.rfl'(r:Nat×RV):qm r r:=⟨rfl,λ_=>rfl,λ_=>rfl,λ_=>rfl,λ_=>rfl⟩
noncomputable def mh(r:Nat×RV):List V:=match r.1 with
 |0=>[.int 0,.str (tx r.2.sg),.str ""]
 |1=>[.int 1,.str (tx r.2.o1),.str (tx r.2.o2)]
 |2=>[.int 2,.str (tx r.2.o1),.str (tx r.2.o2)]
 |_=>[.int 3,.str (tx r.2.o1),.int r.2.t]
theorem rS(r:Nat×RV):m3 (i6 r) (some 2) none=mh r:=by
 obtain⟨k,v⟩:=r
 match k with
 |0=>rfl
 |1=>rfl
 |2=>rfl
 |k+3=>rfl
theorem pz(r:Nat×RV):(mh r).all ja=true:=by
 obtain⟨k,v⟩:=r
 match k with
 |0=>rfl
 |1=>rfl
 |2=>rfl
 |k+3=>rfl
theorem vZ(r:Nat×RV):¬ (HT.sIx (i6 r).length 0 (some 2)=0/\HT.sIx (i6 r).length (i6 r).length none=(i6 r).length):=by
 obtain⟨k,v⟩:=r
 match k with
 |0=>exact λh=>by cases h.1
 |1=>exact λh=>by cases h.1
 |2=>exact λh=>by cases h.1
 |k+3=>exact λh=>by cases h.1
theorem j_{a b:Str}(h:qd (.str a) (.str b)=true):a=b:=by
 have h':(a==b)=true:=h;exact eq_of_beq h'
theorem y4{a b:Int}(h:qd (.int a) (.int b)=true):a=b:=by
 have h':(a==b)=true:=h;exact eq_of_beq h'
theorem gB{x y z x' y' z':V}(h:jV [x,y,z] [x',y',z']=true):qd x x'=true/\qd y y'=true/\qd z z'=true:=by
 have h':(([0,1,2]:List Nat).all (λj=>match([x,y,z]:List V)[j]?,([x',y',z']:List V)[j]? with | some x,some y=>qd x y | _,_=>true)&&true)=true:=h
 simpa using h'
theorem vA(r:Nat×RV)(h4:r.1<4):∃y z,mh r=[.int (r.1:Int),y,z]:=by
 obtain⟨k,v⟩:=r;rcases kj h4 with h | h | h | h<;>(simp only at h;subst h;exact⟨_,_,rfl⟩)
theorem Br{r' r:Nat×RV}(h4':r'.1<4)(h4:r.1<4)(he:jV (mh r') (mh r)=true):qm r' r:=by
 have hk:r'.1=r.1:=by
  obtain⟨y,z,e⟩:=vA r h4;obtain⟨y',z',e'⟩:=vA r' h4';rw[e,e']at he;have:=y4 (gB he).1;omega
 obtain⟨k',v'⟩:=r';obtain⟨k,v⟩:=r;have e:k'=k:=hk;subst e;rcases kj h4 with h | h | h | h<;>(simp only at h;subst h)
 ·have:=gB (show jV [.int 0,.str (tx v'.sg),.str ""] [.int 0,.str (tx v.sg),.str ""]=true from he)
  exact⟨rfl,λ_=>g_ (j_ this.2.1),λh=>absurd rfl h,λh=>(by rcases h with h | h<;>cases h),λh=>(by cases h)⟩
 ·have:=gB (show jV [.int 1,.str (tx v'.o1),.str (tx v'.o2)] [.int 1,.str (tx v.o1),.str (tx v.o2)]=true from he)
  exact⟨rfl,λh=>(by cases h),λ_=>g_ (j_ this.2.1),λ_=>g_ (j_ this.2.2),λh=>(by cases h)⟩
 ·have:=gB (show jV [.int 2,.str (tx v'.o1),.str (tx v'.o2)] [.int 2,.str (tx v.o1),.str (tx v.o2)]=true from he)
  exact⟨rfl,λh=>(by cases h),λ_=>g_ (j_ this.2.1),λ_=>g_ (j_ this.2.2),λh=>(by cases h)⟩
 ·have:=gB (show jV [.int 3,.str (tx v'.o1),.int v'.t] [.int 3,.str (tx v.o1),.int v.t]=true from he)
  exact⟨rfl,λh=>(by cases h),λ_=>g_ (j_ this.2.1),λh=>(by rcases h with h | h<;>cases h),λ_=>y4 this.2.2⟩
noncomputable abbrev mW:Stmt:=iZ 67
inductive qK(vs:List V)(H:Hp)(Q:VK)(_E:XK):Prop
 |mk (l t:Addr) (b:Bool) (ts:La) (rs:Yaa) (r:Nat×RV) (_:vs=[.ref l,.ref t,.bl b]) (_:h_ H l ts rs) (_:(∀x∈rs,x.1<4)) (_:H t=some (.tup (i6 r))) (_:r.1<4) (_:rs.length<24) (_:(∀(k:Nat) r' H',rs[k]?=some r'->qm r' r->az H H'->Q (.int (k:Int)) H')) (_:(∀H0,az H H0->Q (.int (rs.length:Int)) (ax H0 l (.lst (ts.map V.ref++[V.ref t])))))
theorem wV:av ["_law_rules","_law_wanted","_law_again","_law_k","_law_rule_here"] ["_law_rules","_law_wanted","_law_again"] (ai mW):=by walk_at "c"
theorem wR{f:Addr}{fd:Lc}(F:cy K "_law_noted" "_law_noted" mW f fd)(nb:NB mg):aQ P w K mg base bG 1 f fd ["_law_rules","_law_wanted","_law_again"] qK:=by
 have sc:=wV;walk_at "f"
 ·obtain⟨l,t,b,ts,rs,r,rfl,_⟩:=h;rfl
 ·obtain⟨l,t,b,ts,rs,r,rfl,hrs,hk4,ht,hr4,hl24,q1,q3⟩:=h
  have hu:=hr.units;refine⟨_,(af (bE (lj (ak 2) λ_=>rfl)
   (ah (bw PassesOwn.never rfl (oR rfl nb.enumerate (aa (ak 0) ad)) (fG (n:=2) rfl (aK (ay (i:=3) sc.nd rfl (Or.inl rfl)) (aK (ay (i:=4) sc.nd rfl (Or.inl rfl)) cW)))
   (ah (bE (aH (BQ hu) (eG ni (ak 4) (fu aj) gE) (eG ni (ak 1) (fu aj) gE) (aO _))
   (ah (aE (ak 3)))
   aM))))
   aM)
   (af (bv (ic PySem.F.plainAttrs_list PySem.F.slot_list_append PySem.F.type_list_append dN (ak 0) (aa (ak 1) ad)))
   (ah (aE (aw (bd.m0 eX) (aA a_ rfl nb.len aW (aa (ak 0) ad)) aj))))),?_⟩
  refine am λN1 h1=>?_;have fin:∀{z1 z2:Option V} {H':Hp},az H H'->N1 [some (V.ref l),some (V.ref t),some (V.bl b),z1,z2] H':=fun{z1 z2 H'} sm=>by
   refine h1 _ _ ?_;walk_at "wp";have hl':=sm _ _ hrs.1;have hln:(ts.map V.ref).length=rs.length:=by rw[J_];exact hrs.2.1
   refine⟨.inl ⟨rfl,_,aS.of hl'⟩,_,hl',?_,_,aS.of ac,?_⟩
   ·rw[hln];exact bf ⋯
   ·have:=q3 H' sm
    rw[Ku,hln];rw[show(((rs.length+[V.ref t].length:Nat):Int)-1)=(rs.length:Int) by simp];exact this
  walk_at "wp";cases b with
  |false=>rw[if_neg nofun];exact fin (az.refl _)
  |true=>
   rw[if_pos rfl];refine⟨_,aS.of hrs.1,?_⟩;refine kc (xs:=ts.map V.ref) (λi σ H'=>az H H'/\∃z1 z2,σ=[some (V.ref l),some (V.ref t),some (V.bl true),z1,z2]) ⟨λ_ _ e=>e,_,_,rfl⟩ ?_ ?_ ?_
   ·rintro i σ H' _ ⟨sm,_⟩
    exact aS.of (sm _ _ hrs.1)
   ·rintro i x σ H' T hx ⟨sm,z1,z2,rfl⟩ hT
    rw[Ka]at hx;obtain⟨ti,hti,rfl⟩:=Kz.mp hx;obtain⟨r',hr'⟩:∃r',rs[i]?=some r':=⟨_,J7 (by have:=(J8.mp hti).1;have:=hrs.2.1;omega)⟩;have hri:=sm _ _ (hrs.2.2 i ti r' hti hr');have sT:=ae (o:=.tup [V.int (i:Int),V.ref ti]) hT;have hTT:ax H' T (.tup [V.int (i:Int),V.ref ti]) T=some (.tup [V.int (i:Int),V.ref ti]):=ac;generalize ax H' T (.tup [V.int (i:Int),V.ref ti])=H1 at sT hTT ⊢;walk_at "wp";have sm1:=sm.trans sT;refine⟨_,bh.of hTT,rfl,_,_,rfl,_,_,rfl,rfl,ti,rfl,_,bh.of (sT _ _ hri),vZ r',λc1 hc1=>?_⟩;rw[rS];have sC:=ae (o:=.tup (mh r')) hc1;refine⟨_,bh.of (sC _ _ (sm1 _ _ ht)),vZ r,λc2 hc2=>?_⟩;rw[rS];have sD:=ae (o:=.tup (mh r)) hc2;refine⟨_,bh.of (sD _ _ ac),_,bh.of ac,pz r',pz r,?_⟩;have sE:=(sm1.trans sC).trans sD
    by_cases he:jV (mh r') (mh r)=true
    ·rw[if_pos he]
     exact q1 i r' _ hr' (Br (hk4 _ (Kb hr')) hr4 he) sE
    ·rw[if_neg he];exact sE
   ·rintro σ H' ⟨sm,z1,z2,rfl⟩
    exact fin sm
structure SI where
 t:bD
 nm:List Nat
 p:bF
 c:Int
structure FI where
 a:Addr
 v:V
 lp:Addr
 x:SI
noncomputable def FI.at(z:FI)(H:Hp):Prop:=H z.a=some (.tup [z.v,.str (tx z.x.nm),.ref z.lp,.int z.x.c])/\b5 H z.x.t.d z.v/\H z.lp=some (.lst (aD z.x.p))/\z.x.p≠[]
theorem FI.at.up{z:FI}{H H':Hp}(h:z.at H)(s:az H H'):z.at H':=⟨s _ _ h.1,h.2.1.up (ij.of s) _,s _ _ h.2.2.1,h.2.2.2⟩
noncomputable def fF(l:Addr)(H H':Hp):Prop:=∀y u,y≠l->H y=some u->H' y=some u
theorem fF.of{l:Addr}{H H':Hp}(s:az H H'):fF l H H':=λy u _ e=>s y u e
theorem fF.trans{l:Addr}{H H1 H2:Hp}(a:fF l H H1)(b:fF l H1 H2):fF l H H2:=λy u n e=>b y u n (a y u n e)
theorem fF.put{l:Addr}{H:Hp}{o:HO}:fF l H (ax H l o):=λy u n e=>by rw[ao n];exact e
theorem fF.tups{l:Addr}{H H':Hp}(s:fF l H H'){as:La}(hl:H l=some (.lst (as.map V.ref))):ij H H':=λb xs h=>s b _ (λz=>by rw[z,hl]at h;cases h) h
theorem FI.at.keep{z:FI}{l:Addr}{H H':Hp}{as:La}(h:z.at H)(hl:H l=some (.lst (as.map V.ref)))(s:fF l H H'):z.at H':=
 ⟨s.tups hl _ _ h.1,h.2.1.up (s.tups hl) _,s _ _ (xa hl h.2.2.1 h.2.2.2) h.2.2.1,h.2.2.2⟩
structure Dv(rs:Yaa)(p:bF)(lim:Int)(x:SI):Prop where
 sd:∃r c,Sd rs x.t (x.nm,r,c,x.c) x.p
 nm:x.nm∈p
 le:x.c<=lim
theorem Sd.more{rs:Yaa}(r:Nat×RV){t:bD}{p:TR}{pc:bF}(h:Sd rs t p pc):Sd (rs++[r]) t p pc:=by
 have up:∀{n:Nat} {x:Nat×RV},rs[n]?=some x->(rs++[r])[n]?=some x:=fun{n x} e=>by rw[Kt (J8.mp e).1];exact e
 induction h with
 |cell e=>exact .cell (up e)
 |turn e _ ih=>exact .turn (up e) ih
 |beside e _ _ m ih1 ih2=>exact .beside (up e) ih1 ih2 m
 |above e _ _ m ih1 ih2=>exact .above (up e) ih1 ih2 m
inductive Nx(r:Nat×RV):List SI->bF->Prop
 |cell:r.1=0->Nx r [] [r.2.sg]
 |turn {x:SI}:r.1=3->x.nm=r.2.o1->Nx r [x] (turned x.p r.2.t.toNat)
 |pair {x y:SI} {pc:bF}:(r.1=1\/r.1=2)->x.nm=r.2.o1->y.nm=r.2.o2->gu r.1 r.2 [x.p,y.p]=some pc->Nx r [x,y] pc
theorem Nx.sd{rs:Yaa}(hg:∀r∈rs,dD r){n:Nat}{r r':Nat×RV}{ys:List SI}{pc:bF}(h:Nx r ys pc)(e:rs[n]?=some r')(as:qm r' r)(hy:∀y∈ys,∃a c,Sd rs y.t (y.nm,a,c,y.c) y.p) :
  ∃a c,Sd rs (ve (n:Int) (ys.map SI.t)) (r'.2.n,a,c,r'.2.c+(ys.map SI.c).sum) pc:=by
 obtain⟨k',v'⟩:=r';obtain⟨k,v⟩:=r;have ek:k'=k:=as.k;subst ek;cases h with
 |cell h=>
  have h:k'=0:=h;subst h;have:=as.sg rfl;have h1:Sd rs (.n0 n) (v'.n,1,1,v'.c) [v'.sg]:=.cell e;rw[show v'.sg=v.sg from this]at h1;have e1:v'.c=v'.c+(([]:List SI).map SI.c).sum:=by simp
  rw[e1]at h1;exact⟨_,_,h1⟩
 | @turn x h hx=>
  have h:k'=3:=h;subst h;obtain⟨a,c,s⟩:=hy x (by simp);have ho:v'.o1=v.o1:=as.o1 (show(3:Nat)≠0 by decide);have ht:v'.t=v.t:=as.t rfl;have hx:x.nm=v'.o1:=by rw[ho];exact hx
  rw[hx]at s;have h1:=Sd.turn e s;rw[ht]at h1;have e1:x.c=([x].map SI.c).sum:=by simp
  rw[e1]at h1;exact⟨_,_,h1⟩
 | @pair x y _ h hx hy2 m=>
  obtain⟨a,c,s⟩:=hy x (by simp);obtain⟨a2,c2,s2⟩:=hy y (by simp);have hx:x.nm=v'.o1:=by rw[show v'.o1=v.o1 from as.o1 (by rcases h with h | h<;>(have h:k'=_:=h;subst h;exact λz=>by cases z))];exact hx
  have hy2:y.nm=v'.o2:=by rw[show v'.o2=v.o2 from as.o2 h];exact hy2
  rw[hx]at s;rw[hy2]at s2;rcases h with h | h
  ·have h:k'=1:=h
   subst h;have m':gu 1 v' [x.p,y.p]=some pc:=m;have e1:a=a2:=(nO (s.pic hg) (s2.pic hg) m').1;subst e1;have h1:=Sd.beside e s s2 m';have e1:x.c+y.c=([x,y].map SI.c).sum:=by simp
   rw[e1]at h1;exact⟨_,_,h1⟩
  ·have h:k'=2:=h
   subst h;have m':gu 2 v' [x.p,y.p]=some pc:=m;have e1:c=c2:=(pH (s.pic hg) (s2.pic hg) m').1;subst e1;have h1:=Sd.above e s s2 m';have e1:x.c+y.c=([x,y].map SI.c).sum:=by simp
   rw[e1]at h1;exact⟨_,_,h1⟩
theorem Nx.ne{r:Nat×RV}{ys:List SI}{pc:bF}(h:Nx r ys pc):ys.length<=2:=by cases h<;>simp
structure GS(H:Hp)(p:bF)(sg:K7)(lim:Int)(lr ls:Addr)(ts:La)(rs:Yaa)(zs:List FI):Prop where
 rows:h_ H lr ts rs
 ro:∀r∈rs,qq p sg r
 st:H ls=some (.lst (zs.map λz=>V.ref z.a))
 at_:∀z∈zs,z.at H
 good:∀z∈zs,Dv rs p lim z.x
 ne:lr≠ls
theorem GS.up{H H':Hp}{p:bF}{sg:K7}{lim:Int}{lr ls:Addr}{ts:La}{rs:Yaa}{zs:List FI}(g:GS H p sg lim lr ls ts rs zs)(s:az H H'):GS H' p sg lim lr ls ts rs zs:=
 ⟨g.rows.up s,g.ro,s _ _ g.st,λz hz=>(g.at_ z hz).up s,g.good,g.ne⟩
theorem GS.st'{H:Hp}{p:bF}{sg:K7}{lim:Int}{lr ls:Addr}{ts:La}{rs:Yaa}{zs:List FI}(g:GS H p sg lim lr ls ts rs zs):H ls=some (.lst ((zs.map FI.a).map V.ref)):=by rw[Kl];exact g.st
theorem GS.row{H:Hp}{p:bF}{sg:K7}{lim:Int}{lr ls:Addr}{ts:La}{rs:Yaa}{zs:List FI}(g:GS H p sg lim lr ls ts rs zs){t:Addr}{r:Nat×RV}(ht:H t=some (.tup (i6 r)))(hr:qq p sg r):GS (ax H lr (.lst (ts.map V.ref++[V.ref t]))) p sg lim lr ls (ts++[t]) (rs++[r]) zs:=
 ⟨g.rows.app ht,λx hx=>by rcases Kk.mp hx with h | h;exact g.ro x h;rw[J'.mp h];exact hr,by rw[ao g.ne.symm];exact g.st,λz hz=>(g.at_ z hz).keep g.rows.1 fF.put,λz hz=>⟨let ⟨a,c,s⟩:=(g.good z hz).sd;⟨a,c,s.more r⟩,(g.good z hz).nm,(g.good z hz).le⟩,g.ne⟩
theorem GS.item{H:Hp}{p:bF}{sg:K7}{lim:Int}{lr ls:Addr}{ts:La}{rs:Yaa}{zs:List FI}(g:GS H p sg lim lr ls ts rs zs){z:FI}(hz:z.at H)(hg:Dv rs p lim z.x):GS (ax H ls (.lst (zs.map (λz=>V.ref z.a)++[V.ref z.a]))) p sg lim lr ls ts rs (zs++[z]):=by
 have hk:fF ls H (ax H ls (.lst (zs.map (λz=>V.ref z.a)++[V.ref z.a]))):=fF.put;refine⟨⟨hk _ _ g.ne g.rows.1,g.rows.2.1,λi t r e1 e2=>hk.tups g.st' _ _ (g.rows.2.2 i t r e1 e2)⟩,g.ro,by rw[ac,Kj];rfl,λy hy=>?_,λy hy=>?_,g.ne⟩
 ·rcases Kk.mp hy with h | h
  ·exact(g.at_ y h).keep g.st' hk
  ·rw[J'.mp h];exact hz.keep g.st' hk
 ·rcases Kk.mp hy with h | h
  ·exact g.good y h
  ·rw[J'.mp h];exact hg
noncomputable def CA(lr ls:Addr)(H H':Hp):Prop:=∀y u,y≠lr->y≠ls->H y=some u->H' y=some u
noncomputable abbrev uJ:Stmt:=iZ 68
inductive qv(vs:List V)(H:Hp)(Q:VK)(_E:XK):Prop
 |mk (lr ls tw la tm lq:Addr) (b:Bool) (ts:La) (rs:Yaa) (zs ys:List FI) (r:Nat×RV) (pc:bF) (p:bF) (sg:K7) (lim:Int) (_:vs=[.ref lr,.ref ls,.ref tw,.bl b,.ref la,.ref tm]) (_:GS H p sg lim lr ls ts rs zs) (_:H tw=some (.tup (i6 r))) (_:qq p sg r) (_:rs.length<24) (_:zs.length<=100) (_:H la=some (.lst (ys.map λz=>V.ref z.a))) (_:la≠lr) (_:la≠ls) (_:(∀y∈ys,y∈zs)) (_:H tm=some (.tup [.ref lq,.int lim])) (_:H lq=some (.lst (aD pc))) (_:pc≠[]) (_:Nx r (ys.map FI.x) pc) (_:∀H' ts' rs' zs',GS H' p sg lim lr ls ts' rs' zs'->CA lr ls H H'->rs'.length<=rs.length+1->zs'.length<=zs.length+1->(zs≠[]\/(rs=[]/\r.1=0/\r.2.c<=lim)->zs'≠[])->Q .non H')
theorem Cg:av ["_law_rules","_law_stock","_law_wanted","_law_again","_law_parts","_law_made","_law_k","_law_cost"] ["_law_rules","_law_stock","_law_wanted","_law_again","_law_parts","_law_made"] (ai uJ):=by walk_at "c"
theorem y6(r:Nat×RV):jl (i6 r) 0=some (.str (tx r.2.n))/\jl (i6 r) 1=some (.int r.2.c):=by
 obtain⟨k,v⟩:=r
 match k with
 |0=>exact⟨rfl,rfl⟩
 |1=>exact⟨rfl,rfl⟩
 |2=>exact⟨rfl,rfl⟩
 |k+3=>exact⟨rfl,rfl⟩
theorem Nx.cell0{r:Nat×RV}{ys:List SI}{pc:bF}(h:Nx r ys pc)(h1:r.1=0):ys=[]:=by
 cases h with
 |cell _=>rfl
 |turn e=>rw[h1]at e;cases e
 |pair e=>rw[h1]at e;rcases e with e | e<;>cases e
theorem vk{H:Hp}:∀{ys:List FI},(∀z∈ys,z.at H)->aR H (((ys.map FI.x).map SI.t).map bD.d) (ys.map λz=>z.v)
 | [],_=>by unfold aR;rfl
 |z::ys,h=>by
  show aR H (z.x.t.d::_) (z.v::_);exact aR.cons (h z List.mem_cons_self).2.1 (vk λy hy=>h y (Kn _ hy))
theorem CI{f:Addr}{fd:Lc}(F:cy K "_law_put" "_law_put" uJ f fd)(nb:NB mg)(yam:mg "sum"=none)(zPd:eR P w K mg base bG 1 "_law_noted" ["_law_rules","_law_wanted","_law_again"] qK):aQ P w K mg base bG 2 f fd ["_law_rules","_law_stock","_law_wanted","_law_again","_law_parts","_law_made"] qv:=by
 have sc:=Cg;walk_at "f"
 ·obtain⟨lr,ls,tw,la,tm,lq,b,ts,rs,zs,ys,r,pc,p,sg,lim,rfl,_⟩:=h;rfl
 ·obtain⟨lr,ls,tw,la,tm,lq,b,ts,rs,zs,ys,r,pc,p,sg,lim,rfl,g,htw,hro,h24,hz100,hla,nla,nls,hys,htm,hlq,hpc,nx,q⟩:=h
  have hu:=hr.units;refine⟨_,(af (aB (i:=6) sc.nd rfl (Or.inl rfl) (aI zPd (hr.mono nofun) rfl ba (aa (ak 0) (aa (ak 2) (aa (ak 3) ad)))))
   (af (aB (i:=7) sc.nd rfl (Or.inl rfl) (aw (bd.m0 bN) (aF aG (aF aZ (ak 0) (ak 6) (λ_ _=>rfl)) aj (λ_ _=>rfl)) (aA (nN rfl) rfl yam wK (aa (cH ["_law_part"] [] rfl (bB.of (by kernel_rfl)) (by kernel_rfl) (cE (ak 4))
    (λ_ _ _ _=>(ay (i:=0) (by show(["_law_part"]:List Str).Nodup;decide +kernel) rfl (Or.inl rfl))) (λ_ _ _ _=>bU) (λ_ _ _ _=>(aF (yQ (K:=K) rfl) (ak 0) aj (λ_ _=>rfl)))) ad))))
   (ah (bE (aH (bd.m0 l6) (ak 7) (aF aG (ak 5) aj (λ_ _=>rfl)) (aO _))
   (ah (bv (ic PySem.F.plainAttrs_list PySem.F.slot_list_append PySem.F.type_list_append dN (ak 1) (aa (aL (aa (aw dH (aL (aa (ak 6) ad)) (d9 qW rfl nb.tuple Ce (aa (cH ["_law_part"] [] rfl (bB.of (by kernel_rfl)) (by kernel_rfl) (cE (ak 4))
    (λ_ _ _ _=>(ay (i:=0) (by show(["_law_part"]:List Str).Nodup;decide +kernel) rfl (Or.inl rfl))) (λ_ _ _ _=>bU) (λ_ _ _ _=>(aF (yQ (K:=K) rfl) (ak 0) aj (λ_ _=>rfl)))) ad))) (aa (aF aG (aF aZ (ak 0) (ak 6) (λ_ _=>rfl)) aj (λ_ _=>rfl)) (aa (aF aG (ak 5) aj (λ_ _=>rfl)) (aa (ak 7) ad))))) ad))))
   aM)))),?_⟩
  refine am λN1 h1=>?_;have go:∀(k:Nat) (r':Nat×RV) (ts':La) (rs':Yaa) (H1:Hp),GS H1 p sg lim lr ls ts' rs' zs->rs'[k]?=some r'->qm r' r->rs'.length<=rs.length+1->fF lr H H1->(rs=[]->r'=r)->N1 [some (V.ref lr),some (V.ref ls),some (V.ref tw),some (V.bl b),some (V.ref la),some (V.ref tm),some (V.int (k:Int)),none] H1:=by
   intro k r' ts' rs' H1 g1 hk has hlen hE hnew;refine h1 _ _ ?_;clear h1;have hla1:=hE _ _ nla hla;have htm1:=hE.tups g.rows.1 _ _ htm;have hlq1:=hE _ _ (xa g.rows.1 hlq hpc) hlq;have hyl:=nx.ne;rw[J_]at hyl;obtain⟨tk,htk⟩:∃tk,ts'[k]?=some tk:=⟨_,J7 (by have:=(J8.mp hk).1;have:=g1.rows.2.1;omega)⟩;have eat:jl (ts'.map V.ref) (k:Int)=some (V.ref tk):=bx (by rw[Ka,htk];rfl);have hrow:=g1.rows.2.2 k tk r' htk hk;walk_at "n";have hya:∀y∈ys,y.at H1:=λy hy=>g1.at_ y (hys y hy);refine⟨_,aS.of g1.rows.1,_,eat,_,rfl,_,bh.of hrow,_,(y6 r').2,⟨_,aS.of hla1⟩,?_⟩;refine gq (as:=ys) (emb:=λz=>V.ref z.a) (f:=λz=>some (V.int z.x.c)) (λσ=>∃x,σ=[x]) ⟨_,rfl⟩ (λH' s=>aS.of (s _ _ hla1)) ⋯ ?_ ?_
   ·rintro i z hz σ H' M1 M0 ⟨y,rfl⟩ sm k1 k0
    walk_at "wp";exact⟨_,bh.of (sm _ _ (hya z (Kb hz)).1),_,rfl,k1 _ _ _ rfl sm ⟨_,rfl⟩⟩
   intro H2 s2 l hl;rw[j9];refine⟨ys.map λz=>z.x.c,by rw[Kl];exact aS.of ac,_,rfl,h1 _ _ ?_⟩;clear h1;have s3:=s2.trans (ae (o:=.lst (ys.map λz=>V.int z.x.c)) hl);generalize ax H2 l (.lst (ys.map λz=>V.int z.x.c))=H3 at s3 ⊢;clear s2 hl H2;have g3:=g1.up s3;have hsum:(ys.map λz=>z.x.c).sum=((ys.map FI.x).map SI.c).sum:=by rw[Kl];rfl
   have hsd:=nx.sd (λr hr=>(g1.ro r hr).good) hk has λy hy=>by
    obtain⟨z,hz,rfl⟩:=KQ.mp hy;exact(g1.good z (hys z hz)).sd
   rw[hsum];generalize hcost:r'.2.c+((ys.map FI.x).map SI.c).sum=cost at hsd ⊢;have hB:∀{H4},az H3 H4->CA lr ls H H4:=λs4 y u n1 _ e=>s4 _ _ (s3 _ _ (hE y u n1 e));walk_at "wp";refine⟨_,bh.of (s3 _ _ htm1),_,rfl,_,rfl,?_⟩;refine fq (λt1=>?_) (λt1=>?_)
   ·refine⟨.inl ⟨rfl,_,aS.of g3.st⟩,al nofun,λp1 hp1=>?_⟩
    have s4:=ae (o:=.tup [V.int (k:Int)]) hp1;have e4:ax H3 p1 (.tup [V.int (k:Int)]) p1=some (.tup [V.int (k:Int)]):=ac;generalize ax H3 p1 (.tup [V.int (k:Int)])=H4 at s4 e4 ⊢;have s34:=s3.trans s4;refine⟨⟨_,aS.of (s34 _ _ hla1)⟩,?_⟩;refine gq (as:=ys) (emb:=λz=>V.ref z.a) (f:=λz=>some z.v) (λσ=>∃x,σ=[x]) ⟨_,rfl⟩ (λH' s=>aS.of (s _ _ (s34 _ _ hla1))) ⋯ ?_ ?_
    ·rintro i z hz σ H' M1 M0 ⟨y,rfl⟩ sm k1 k0
     walk_at "wp";exact⟨_,bh.of (sm _ _ (s34 _ _ (hya z (Kb hz)).1)),_,rfl,k1 _ _ _ rfl sm ⟨_,rfl⟩⟩
    intro H5 s5 l hl;rw[j9];refine⟨_,.inl ⟨aS.of ac,λl4 hl4=>?_⟩⟩;have sB:=(ae (o:=.lst (ys.map λz=>z.v)) hl).trans (ae (o:=.tup (ys.map λz=>z.v)) hl4);refine iq (sB _ _ (s5 _ _ e4)) ac (by simp) (by simp;omega) λtr H6 htr s6=>?_;have s16:=s34.trans ((s5.trans sB).trans s6);have g6:=g1.up s16;refine⟨_,aS.of g6.rows.1,_,eat,_,rfl,_,bh.of (s16 _ _ hrow),_,(y6 r').1,_,bh.of (s16 _ _ htm1),_,rfl,al nofun,λnp hnp=>?_⟩;have s7:=ae (o:=.tup [V.ref tr,V.str (tx r'.2.n),V.ref lq,V.int cost]) hnp;have e7:ax H6 np (.tup [V.ref tr,V.str (tx r'.2.n),V.ref lq,V.int cost]) np=some (.tup [V.ref tr,V.str (tx r'.2.n),V.ref lq,V.int cost]):=ac;generalize ax H6 np (.tup [V.ref tr,V.str (tx r'.2.n),V.ref lq,V.int cost])=H7 at s7 e7 ⊢;have s17:=s16.trans s7;have g7:=g1.up s17;have itm:FI.at ⟨np,V.ref tr,lq,⟨ve (k:Int) ((ys.map FI.x).map SI.t),r'.2.n,pc,cost⟩⟩ H7:=by
     refine⟨e7,?_,s17 _ _ hlq1,hpc⟩;refine bD.of (vs:=ys.map λz=>z.v) ?_ ?_
     ·show H7 tr=some (.tup (.int (ve (k:Int) ((ys.map FI.x).map SI.t)).i::_))
      rw[yt];exact s7 _ _ htr
     ·show aR H7 ((ve (k:Int) ((ys.map FI.x).map SI.t)).ps.map bD.d) _
      rw[uo _ (by simp;omega)];exact vk λz hz=>((hya z hz).up s17)
    have gd:Dv rs' p lim ⟨ve (k:Int) ((ys.map FI.x).map SI.t),r'.2.n,pc,cost⟩:=⟨hsd,(g1.ro _ (Kb hk)).n,t1⟩;refine⟨_,g7.st,by rw[J_];exact bf ⋯,?_⟩;exact q _ ts' rs' _ (g7.item itm gd) (λy u n1 n2 e=>by rw[ao n2];exact s17 _ _ (hE y u n1 e)) hlen (by simp) (λ_=>by simp)
   ·refine q H3 ts' rs' zs g3 (hB (az.refl _)) hlen ⋯ λh=>?_
    rcases h with h | ⟨h0,h1,h2⟩
    ·exact h
    ·refine absurd ?_ t1
     have er:=hnew h0;subst er;rw[<- hcost];rw[nx.cell0 h1]
     simpa using h2
  clear h1;walk_at "wp";refine⟨lr,tw,b,ts,rs,r,rfl,g.rows,λx hx=>(g.ro x hx).good.k4,htw,hro.good.k4,h24,λk r' H1 hk has s1=>?_,λH0 s0=>?_⟩
  ·exact go k r' ts rs H1 (g.up s1) hk has ⋯ (.of s1) (λe=>by rw[e]at hk;simp at hk)
  ·exact go rs.length r _ _ _ ((g.up s0).row (s0 _ _ htw) hro) (by simp) (qm.rfl' r) (by simp) ((fF.of s0).trans fF.put) (λ_=>rfl)
noncomputable abbrev qO:Stmt:=iZ 69
inductive rK(vs:List V)(H:Hp)(Q:VK)(_E:XK):Prop
 |mk (lr ls td lb:Addr) (ts:La) (rs:Yaa) (zs:List FI) (p:bF) (sg:K7) (c dear side lim:Int) (_:vs=[.ref lr,.ref ls,.int c,.ref td]) (_:GS H p sg lim lr ls ts rs zs) (_:H td=some (.tup [.str (tx sg),.ref lb,.int dear,.int side,.int lim])) (_:H lb=some (.lst (aD p))) (_:p.length=4) (_:(∀r∈p,dz r=true)) (_:eJ sg=true) (_:1<=dear) (_:dear<=9) (_:dear<=lim) (_:side<=6) (_:rs.length<24) (_:zs.length<=100) (_:∀H' ts' rs' zs',GS H' p sg lim lr ls ts' rs' zs'->CA lr ls H H'->rs'.length<=rs.length+1->zs'.length<=zs.length+1->(zs≠[]\/rs=[]->zs'≠[])->Q .non H')
theorem AT:av ["_law_rules","_law_stock","_law_cell_here","_law_drawn","_law_signs_here","_law_names_here","_law_dear","_law_side","_law_limit","_law_kind","_law_again","_law_name","_law_cost","_law_rest","_law_sign","_law_one","_law_made","_law_other","_law_way","_law_picture"] ["_law_rules","_law_stock","_law_cell_here","_law_drawn"] (ai qO):=by walk_at "c"
theorem zu{f:Addr}{fd:Lc}(F:cy K "_law_step" "_law_step" qO f fd)(nb:NB mg)(zac:eR P w K mg base bG 2 "_law_put" ["_law_rules","_law_stock","_law_wanted","_law_again","_law_parts","_law_made"] qv)(zGc:eR P w K mg base bG 1 "_law_turned" ["_law_picture","_law_t"] (n6 K))(zHc:eR P w K mg base bG 1 "_law_joined" ["_law_one","_law_other","_law_side","_law_most"] nZ):aQ P w K mg base bG 3 f fd ["_law_rules","_law_stock","_law_cell_here","_law_drawn"] rK:=by
 have sc:=AT;walk_at "f"
 ·obtain⟨lr,ls,td,lb,ts,rs,zs,p,sg,c,dear,side,lim,rfl,_⟩:=h;rfl
 ·obtain⟨lr,ls,td,lb,ts,rs,zs,p,sg,c,dear,side,lim,rfl,g,htd,hlb,hp4,hpn,hsg,hd1,hd9,hdl,hs6,h24,hz100,q⟩:=h
  have hu:=hr.units;refine⟨_,(af (BY (ak 3) (fG (n:=5) rfl (aK (ay (i:=4) sc.nd rfl (Or.inl rfl)) (aK (ay (i:=5) sc.nd rfl (Or.inl rfl)) (aK (ay (i:=6) sc.nd rfl (Or.inl rfl)) (aK (ay (i:=7) sc.nd rfl (Or.inl rfl)) (aK (ay (i:=8) sc.nd rfl (Or.inl rfl)) cW)))))))
   (af (aB (i:=9) sc.nd rfl (Or.inl rfl) (aw (bd.m1 bI) (ak 2) aj))
   (af (aB (i:=10) sc.nd rfl (Or.inl rfl) (oW i' (aw (bd.m1 bI) (aw (bd.m1 ck) (ak 2) aj) aj) aj (aO _)))
   (af (aB (i:=11) sc.nd rfl (Or.inl rfl) (aF aZ (ak 5) (aw (bd.m1 bI) (aw (bd.m1 ck) (ak 2) aj) aj) (λ_ _=>rfl)))
   (af (aB (i:=12) sc.nd rfl (Or.inl rfl) (aw (bd.m0 bN) aj (aw (bd.m1 bI) (aw (bd.m1 ck) (ak 2) aj) (ak 6))))
   (af (aB (i:=13) sc.nd rfl (Or.inl rfl) (aw (bd.m1 ck) (aw (bd.m1 ck) (ak 2) aj) (ak 6)))
   (af (bE (PW.pt (lm (aH i' (ak 9) aj (aO _)) (gO (aH i' (aA a_ rfl nb.len aW (aa (ak 1) ad)) aj (aO _)))))
   (af (aB (i:=14) sc.nd rfl (Or.inl rfl) (aF nM (ak 4) (aw (bd.m1 bI) (ak 13) (aA aU rfl nb.len aW (aa (ak 4) ad))) (λ_ _=>rfl)))
   (af (bv (aI zac (hr.mono nofun) rfl ba (aa (ak 0) (aa (ak 1) (aa (aL (aa (ak 11) (aa (ak 12) (bK (aa (ak 14) (bL ad)))))) (aa (ak 10) (aa (bH ad) (aa (aL (aa (bH (aa (ak 14) ad)) (aa (ak 8) ad))) ad))))))))
   (ah uT)))
   aM)
   (af (aB (i:=15) sc.nd rfl (Or.inl rfl) (aF aZ (ak 1) (aw (bd.m1 bI) (ak 13) (aA a_ rfl nb.len aW (aa (ak 1) ad))) (λ_ _=>rfl)))
   (af (aB (i:=13) sc.nd rfl (Or.inl rfl) (aw (bd.m1 ck) (ak 13) (aA a_ rfl nb.len aW (aa (ak 1) ad))))
   (af (bE (aH i' (ak 9) aj (aO _))
   (af (aB (i:=16) sc.nd rfl (Or.inl rfl) (aL (aa (aI zGc (hr.mono nofun) rfl ba (aa (aF aG (ak 15) aj (λ_ _=>rfl)) (aa (aw (bd.m1 bI) (ak 13) aj) ad))) (aa (ak 8) ad))))
   (af (bv (aI zac (hr.mono nofun) rfl ba (aa (ak 0) (aa (ak 1) (aa (aL (aa (ak 11) (aa (ak 12) (bK (aa (aF aG (ak 15) aj (λ_ _=>rfl)) (aa (aw (bd.m1 bI) (ak 13) aj) ad)))))) (aa (ak 10) (aa (bH (aa (ak 15) ad)) (aa (ak 16) ad))))))))
   (ah uT)))
   aM)
   (af (aB (i:=17) sc.nd rfl (Or.inl rfl) (aF aZ (ak 1) (aw (bd.m1 bI) (ak 13) (aA a_ rfl nb.len aW (aa (ak 1) ad))) (λ_ _=>rfl)))
   (ah (bw PassesOwn.never rfl (xC (aL (aa (ak 9) (aa (aw (bd.m0 eX) aj (ak 9)) ad)))) (ay (i:=18) sc.nd rfl (Or.inl rfl))
   (af (aB (i:=19) sc.nd rfl (Or.inl rfl) (aI zHc (hr.mono nofun) rfl ba (aa (aF aG (ak 15) aj (λ_ _=>rfl)) (aa (aF aG (ak 17) aj (λ_ _=>rfl)) (aa (oW i' (ak 18) aj (aO _)) (aa (ak 7) ad))))))
   (ah (bE (aH uD (ak 19) nG (aO _))
   (af (bv (aI zac (hr.mono nofun) rfl ba (aa (ak 0) (aa (ak 1) (aa (aL (aa (ak 11) (aa (ak 12) (aa (ak 18) (aa (aF aG (ak 15) aj (λ_ _=>rfl)) (aa (aF aG (ak 17) aj (λ_ _=>rfl)) ad)))))) (aa (ak 10) (aa (bH (aa (ak 15) (aa (ak 17) ad))) (aa (aL (aa (ak 19) (aa (ak 8) ad))) ad))))))))
   (ah uT))
   aM)))))))))))))))),?_⟩
  walk_at "n";refine⟨_,bh.of htd,rfl,_,_,rfl,_,_,rfl,_,_,rfl,_,_,rfl,_,_,rfl,rfl,h1 _ _ ?_⟩;walk_at "nc";refine h1 _ _ ?_;walk_at "nc";refine h1 _ _ ?_;walk_at "nc";have hsl:=lD hsg;have pick:∀x:Int,∃z∈p,jl (aD p) (x%4)=some (V.str (tx z)):=λx=>by
   obtain⟨j,hj⟩:∃j:Nat,x%4=(j:Int):=⟨_,(K0 (KY _ ⋯)).symm⟩;have:x%4<4:=KZ _ ⋯;exact⟨p[j]'⋯,Kf _,by rw[hj];exact bx (bb ⋯)⟩
  have ybF:∀x:Int,∃c∈sg,jl (tx sg).cps.toList (x%(sg.length:Int))=some c:=λx=>by
   rw[gK];exact yf (KY _ ⋯) (KZ _ ⋯)
  have hsz:(tx sg).length<=sizeLine:=by rw[au];exact al ⋯
  obtain⟨nm,hnm,p1⟩:=pick (c/8);refine⟨_,aS.of hlb,_,p1,h1 _ _ ?_⟩;walk_at "nc";have c0:0<=c/32%dear:=KY _ ⋯;have c9:c/32%dear<dear:=KZ _ ⋯;refine⟨⋯,h1 _ _ ?_⟩;clear h1;obtain⟨co,hco⟩:∃co,1+c/32%dear=co:=⟨_,rfl⟩;rw[hco];walk_at "n";refine⟨⋯,⋯,h1 _ _ ?_⟩;clear h1;generalize c/32/dear=re;have gd:∀(k:Nat) (z1 z2:K7) (ch:Nat) (tt:Int),k<4->z1∈p->z2∈p->ch∈sg->0<=tt->tt<=7->qq p sg (k,⟨nm,co,z1,z2,[ch],tt⟩):=λk z1 z2 ch tt hk h1 h2 h3 t0 t7=>by
   have g:RV.good ⟨nm,co,z1,z2,[ch],tt⟩:=⟨hpn _ hnm,by show 1<=co;omega,by show co<=9;omega,hpn _ h1,hpn _ h2,DN hsg h3,t0,t7⟩;exact⟨⟨hk,g,g.small⟩,hnm,h1,h2,ch,h3,rfl⟩
  generalize hag:decide (c/4%2=0)=ag;have yby:∀{zs':List FI} {r:Nat×RV},r.2.c=co->(zs≠[]\/(rs=[]/\r.1=0/\r.2.c<=lim)->zs'≠[])->r.1=0\/zs≠[]->(zs≠[]\/rs=[]->zs'≠[]):=fun{zs' r} hc h h0 h1=>by
   refine h ?_;rcases h1 with h1 | h1
   ·exact .inl h1
   ·rcases h0 with h0 | h0
    ·exact .inr ⟨h1,h0,⋯⟩
    ·exact .inl h0
  refine am λN1 h1=>?_;refine sK λtb ub et eu=>?_;walk_at "wp";have ya5:∀{D:iK},D.rt=Q->tb D [some (V.ref lr),some (V.ref ls),some (V.int c),some (V.ref td),some (V.str (tx sg)),some (V.ref lb),some (V.int dear),some (V.int side),some (V.int lim),some (V.int (c%4)),some (V.bl ag),some (V.str (tx nm)),some (V.int co),some (V.int re),none,none,none,none,none,none] H:=fun{D} hD=>by
   rw[et];walk_at "wp";rw[au];obtain⟨ch,hch,pc⟩:=ybF re;have hs2:sg.length<=sizeLine:=al ⋯;refine⟨hs2,⋯,hs2,ch,pc,al nofun,λtw htw=>⟨Kw _,λla hla=>⟨al nofun,λlq hlq=>⟨al nofun,λtm htm=>?_⟩⟩⟩⟩;have r0:=gd 0 nm nm ch 0 nofun hnm hnm hch nofun nofun;generalize hr:(⟨nm,co,nm,nm,[ch],0⟩:RV)=rv at r0;have e1:ax H tw (.tup [V.str (tx nm),V.int co,V.int 0,V.str ⟨#[ch]⟩,V.str (Str.ofString "")]) tw=some (.tup (i6 (0,rv))):=by rw[ac,<- hr];rfl
   have s1:=ae (o:=.tup [V.str (tx nm),V.int co,V.int 0,V.str ⟨#[ch]⟩,V.str (Str.ofString "")]) htw;generalize ax H tw (.tup [V.str (tx nm),V.int co,V.int 0,V.str ⟨#[ch]⟩,V.str (Str.ofString "")])=H1 at s1 e1 hla hlq htm ⊢;have s2:=ae (o:=.lst []) hla;have e2:ax H1 la (.lst []) la=some (.lst []):=ac;generalize ax H1 la (.lst [])=H2 at s2 e2 hlq htm ⊢;have s3:=ae (o:=.lst [V.str ⟨#[ch]⟩]) hlq;have e3:ax H2 lq (.lst [V.str ⟨#[ch]⟩]) lq=some (.lst (aD [rv.sg])):=by rw[ac,<- hr];rfl
   generalize ax H2 lq (.lst [V.str ⟨#[ch]⟩])=H3 at s3 e3 htm ⊢;have s4:=ae (o:=.tup [V.ref lq,V.int lim]) htm;have e4:ax H3 tm (.tup [V.ref lq,V.int lim]) tm=some (.tup [V.ref lq,V.int lim]):=ac;generalize ax H3 tm (.tup [V.ref lq,V.int lim])=H4 at s4 e4 ⊢;have s24:=s3.trans s4;have s14:=s2.trans s24;have s04:=s1.trans s14;have nl:∀{x u},H x=some u->la≠x:=λe z=>by rw[<- z,gG s1 hla]at e;cases e
   refine⟨lr,ls,tw,la,tm,lq,ag,ts,rs,zs,[],(0,rv),[rv.sg],p,sg,lim,rfl,g.up s04,s14 _ _ e1,r0,h24,hz100,s24 _ _ e2,nl g.rows.1,nl g.st,λy hy=>(nomatch hy),e4,s4 _ _ e3,by simp,Nx.cell rfl,λH' ts' rs' zs' g' sB l1 l2 hne=>?_⟩;rw[hD];exact q H' ts' rs' zs' g' (λy u n1 n2 e=>sB y u n1 n2 (s04 _ _ e)) l1 l2 (yby (by rw[<- hr]) hne (.inl rfl))
  refine fq (λ_=>ya5 rfl) (λk0=>⟨_,aS.of g.st,?_⟩);rw[J_];refine fq (λ_=>ya5 rfl) (λz0=>?_);clear ya5;rw[eu];clear et eu tb ub;have hz1:1<=zs.length:=by omega
  have hz0:zs≠[]:=λe=>by rw[e]at hz1;simp at hz1
  have ybN:∀x:Int,∃z∈zs,jl (zs.map λz=>V.ref z.a) (x%(zs.length:Int))=some (V.ref z.a):=λx=>by
   obtain⟨v,hv,e⟩:=yf (xs:=zs.map λz=>V.ref z.a) (KY x (show(zs.length:Int)≠0 by omega)) (by rw[J_];exact KZ _ ⋯);obtain⟨z,hz,rfl⟩:=KQ.mp hv;exact⟨z,hz,e⟩
  walk_at "wp";refine h1 _ _ ?_;walk_at "nc";obtain⟨z1,hz1m,pz1⟩:=ybN re;refine⟨_,aS.of g.st,by rw[J_];omega,_,aS.of g.st,_,by rw[J_];exact pz1,h1 _ _ ?_⟩;walk_at "nc";refine⟨_,aS.of g.st,by rw[J_];omega,by rw[J_];omega,h1 _ _ ?_⟩;clear h1;rw[J_];generalize re/(zs.length:Int)=re2;have za1:=g.at_ z1 hz1m;have zg1:=g.good z1 hz1m;obtain⟨zr,zc,zsd⟩:=zg1.sd;have zp:=zsd.pic λr hr=>(g.ro r hr).good;have zr6:zr<=6:=zp.r6;have zc6:zc<=6:=zp.c6;obtain⟨ch,hch,_⟩:=ybF 0;have fin:∀{H5:Hp} {tw la tm lq:Addr} {ys:List FI} {r:Nat×RV} {pc:bF},az H H5->H5 tw=some (.tup (i6 r))->qq p sg r->r.2.c=co->H5 la=some (.lst (ys.map λz=>V.ref z.a))->H la=none->(∀y∈ys,y∈zs)->H5 tm=some (.tup [.ref lq,.int lim])->H5 lq=some (.lst (aD pc))->(∃a b,eF pc a b)->Nx r (ys.map FI.x) pc->qv [.ref lr,.ref ls,.ref tw,.bl ag,.ref la,.ref tm] H5 (λ_ H1=>Q .non H1) E0:=fun{H5 tw la tm lq ys r pc} s5 e1 hro hc0 e2 hla hys e3 e4 hpc nx=>by
   have nl:∀{x u},H x=some u->la≠x:=λe z=>by rw[<- z,hla]at e;cases e
   obtain⟨a,b,p6⟩:=hpc;refine⟨lr,ls,tw,la,tm,lq,ag,ts,rs,zs,ys,r,pc,p,sg,lim,rfl,g.up s5,e1,hro,h24,hz100,e2,nl g.rows.1,nl g.st,hys,e3,e4,λe=>?_,nx,λH' ts' rs' zs' g' sB l1 l2 hne=>?_⟩
   ·have h1:=p6.rc.1
    have h2:=p6.r0;rw[e]at h1;rw[<- h1]at h2;cases h2
   ·exact q H' ts' rs' zs' g' (λy u n1 n2 e=>sB y u n1 n2 (s5 _ _ e)) l1 l2 (yby hc0 hne (.inr hz0))
  refine am λN1 h1=>?_;refine sK λtb ub et eu=>?_;walk_at "wp";refine fq (λk3=>?_) (λk3=>?_)
  ·rw[et]
   clear et eu tb ub h1;walk_at "n";obtain⟨tt,htt,ht8⟩:∃tt:Nat,re2%8=(tt:Int)/\tt<8:=⟨(re2%8).toNat,⋯,⋯⟩;rw[htt];refine⟨_,bh.of za1.1,_,rfl,z1.lp,z1.x.p,zr,zc,tt,rfl,za1.2.2.1,zp.rc,zp.r0,zp.c0,⋯,⋯,ht8,λlq H1 hlq elq s1=>⟨al nofun,λtm htm=>h1 _ _ ?_⟩⟩;clear h1;have s2:=ae (o:=.tup [V.ref lq,V.int lim]) htm;have e2:ax H1 tm (.tup [V.ref lq,V.int lim]) tm=some (.tup [V.ref lq,V.int lim]):=ac;generalize ax H1 tm (.tup [V.ref lq,V.int lim])=H2 at s2 e2 ⊢;have s02:=s1.trans s2;walk_at "wp";rw[htt];refine⟨_,bh.of (s02 _ _ za1.1),_,rfl,al nofun,λtw htw=>⟨al nofun,λla hla=>?_⟩⟩;have hla0:H la=none:=gG (s02.trans (ae htw)) hla;have e3:ax H2 tw (.tup [V.str (tx nm),V.int co,V.int 3,V.str (tx z1.x.nm),V.int (tt:Int)]) tw=some (.tup (i6 (3,⟨nm,co,z1.x.nm,nm,[ch],(tt:Int)⟩))):=ac;have s3:=ae (o:=.tup [V.str (tx nm),V.int co,V.int 3,V.str (tx z1.x.nm),V.int (tt:Int)]) htw;generalize ax H2 tw (.tup [V.str (tx nm),V.int co,V.int 3,V.str (tx z1.x.nm),V.int (tt:Int)])=H3 at s3 e3 hla ⊢;have s4:=ae (o:=.lst [V.ref z1.a]) hla;exact fin ((s02.trans s3).trans s4) (s4 _ _ e3) (gd 3 _ _ ch _ nofun zg1.nm hnm hch ⋯ ⋯) rfl (ys:=[z1]) ac hla0 (λy hy=>by rw[J'.mp hy];exact hz1m) (s4 _ _ (s3 _ _ e2)) (s4 _ _ (s3 _ _ (s2 _ _ elq))) (rO zp tt) (Nx.turn (x:=z1.x) rfl rfl)
  ·rw[eu]
   clear et eu tb ub;walk_at "wp";refine h1 _ _ ?_;walk_at "nc";obtain⟨z2,hz2m,pz2⟩:=ybN re2;refine⟨_,aS.of g.st,by rw[J_];omega,_,aS.of g.st,_,by rw[J_];exact pz2,h1 _ _ ?_⟩;clear h1;have za2:=g.at_ z2 hz2m;have zg2:=g.good z2 hz2m;obtain⟨zr2,zc2,zsd2⟩:=zg2.sd;have zp2:=zsd2.pic λr hr=>(g.ro r hr).good;walk_at "wp";refine⟨al nofun,λpt hpt=>?_⟩;have s1:=ae (o:=.tup [V.int (c%4),V.int (3-c%4)]) hpt;have e1:ax H pt (.tup [V.int (c%4),V.int (3-c%4)]) pt=some (.tup [V.int (c%4),V.int (3-c%4)]):=ac;generalize ax H pt (.tup [V.int (c%4),V.int (3-c%4)])=H1 at s1 e1 ⊢;refine⟨⟨_,bh.of e1⟩,?_⟩;refine wv (xs:=[V.int (c%4),V.int (3-c%4)]) (λi σ H'=>az H1 H'/\∃y2 y3,σ=[some (V.ref lr),some (V.ref ls),some (V.int c),some (V.ref td),some (V.str (tx sg)),some (V.ref lb),some (V.int dear),some (V.int side),some (V.int lim),some (V.int (c%4)),some (V.bl ag),some (V.str (tx nm)),some (V.int co),some (V.int re2),none,some (V.ref z1.a),none,some (V.ref z2.a),y2,y3]) ⟨az.refl _,_,_,rfl⟩ (λi σ H' _ h=>bh.of (h.1 _ _ e1)) ?_ ?_
   ·rintro i x σ H2 hx ⟨s2,y2,y3,rfl⟩
    obtain⟨k,hk,rfl⟩:∃k:Nat,(k=1\/k=2)/\x=V.int (k:Int):=by
     have hc4:c%4=1\/c%4=2:=by omega
     have hm:=Kb hx;rcases hc4 with e | e<;>rw[e]at hm<;>(rcases Km.mp hm with rfl | hm)
     ·exact⟨1,.inl rfl,rfl⟩
     ·rw[J'.mp hm];exact⟨2,.inr rfl,rfl⟩
     ·exact⟨2,.inr rfl,rfl⟩
     ·rw[J'.mp hm];exact⟨1,.inl rfl,rfl⟩
    have s02:=s1.trans s2;have hk2:(if decide ((k:Int)=1)=true then 1 else 2)=k:=by rcases hk with rfl | rfl<;>rfl
    walk_at "o";refine⟨_,bh.of (s02 _ _ za1.1),_,rfl,_,bh.of (s02 _ _ za2.1),_,rfl,z1.lp,z2.lp,z1.x.p,z2.x.p,zr,zc,zr2,zc2,decide ((k:Int)=1),side,rfl,s02 _ _ za1.2.2.1,s02 _ _ za2.2.2.1,zp,zp2,hs6,λpc hpc lq H3 hlq elq s3=>h2 _ _ ?_,λH3 s3=>h2 _ _ ?_⟩
    ·clear h2
     rw[hk2]at hpc;walk_at "wp";rw[if_pos (by simp)];have s03:=s02.trans s3;refine⟨_,bh.of (s03 _ _ za1.1),_,rfl,_,bh.of (s03 _ _ za2.1),_,rfl,al nofun,λtw htw=>⟨al nofun,λla hla=>⟨al nofun,λtm htm=>?_⟩⟩⟩;have hla0:H la=none:=gG (s03.trans (ae htw)) hla;have r0:qq p sg (k,⟨nm,co,z1.x.nm,z2.x.nm,[ch],0⟩):=gd k _ _ ch _ ⋯ zg1.nm zg2.nm hch nofun nofun;have e4:ax H3 tw (.tup [V.str (tx nm),V.int co,V.int (k:Int),V.str (tx z1.x.nm),V.str (tx z2.x.nm)]) tw=some (.tup (i6 (k,⟨nm,co,z1.x.nm,z2.x.nm,[ch],0⟩))):=by rw[ac];rcases hk with rfl | rfl<;>rfl
     have s4:=ae (o:=.tup [V.str (tx nm),V.int co,V.int (k:Int),V.str (tx z1.x.nm),V.str (tx z2.x.nm)]) htw;generalize ax H3 tw (.tup [V.str (tx nm),V.int co,V.int (k:Int),V.str (tx z1.x.nm),V.str (tx z2.x.nm)])=H4 at s4 e4 hla htm ⊢;have s5:=ae (o:=.lst [V.ref z1.a,V.ref z2.a]) hla;have e5:ax H4 la (.lst [V.ref z1.a,V.ref z2.a]) la=some (.lst [V.ref z1.a,V.ref z2.a]):=ac;generalize ax H4 la (.lst [V.ref z1.a,V.ref z2.a])=H5 at s5 e5 htm ⊢;have s6:=ae (o:=.tup [V.ref lq,V.int lim]) htm;have s56:=s5.trans s6;exact fin ((s03.trans s4).trans s56) (s56 _ _ e4) r0 rfl (ys:=[z1,z2]) (s6 _ _ e5) hla0 (λy hy=>by rcases Km.mp hy with rfl | hy;exact hz1m;rw[J'.mp hy];exact hz2m) ac ((s4.trans s56) _ _ elq) (wu hk zp zp2 (hpc ⟨nm,co,z1.x.nm,z2.x.nm,[ch],0⟩)) (Nx.pair (x:=z1.x) (y:=z2.x) hk rfl rfl (hpc _))
    ·clear h2
     walk_at "wp";rw[if_neg (by simp)];exact s2.trans s3
   ·rintro σ H2 ⟨s2,y2,y3,rfl⟩
    exact q H2 ts rs zs (g.up (s1.trans s2)) (λy u _ _ e=>s2 _ _ (s1 _ _ e)) ⋯ ⋯ (λ_=>hz0)
noncomputable abbrev nE:Stmt:=iZ 70
inductive qM(vs:List V)(H:Hp)(Q:VK)(_E:XK):Prop
 |mk (lc td lb:Addr) (cells:List Int) (p:bF) (sg:K7) (dear side lim:Int) (_:vs=[.ref lc,.ref td]) (_:H lc=some (.lst (cells.map V.int))) (_:1<=cells.length) (_:cells.length<=14) (_:H td=some (.tup [.str (tx sg),.ref lb,.int dear,.int side,.int lim])) (_:H lb=some (.lst (aD p))) (_:p.length=4) (_:(∀r∈p,dz r=true)) (_:eJ sg=true) (_:1<=dear) (_:dear<=9) (_:dear<=lim) (_:side<=6) (_:∀tp lr ls ts rs zs H',H' tp=some (.tup [.ref lr,.ref ls])->GS H' p sg lim lr ls ts rs zs->rs.length<=cells.length->zs≠[]->zs.length<=cells.length->az H H'->Q (.ref tp) H')
theorem xD:av ["_law_cells_here","_law_drawn","_law_rules","_law_stock","_law_cell_here"] ["_law_cells_here","_law_drawn"] (ai nE):=by walk_at "c"
theorem yj{f:Addr}{fd:Lc}(F:cy K "_law_grown" "_law_grown" nE f fd)(nb:NB mg)(zCe:eR P w K mg base bG 3 "_law_step" ["_law_rules","_law_stock","_law_cell_here","_law_drawn"] rK):aQ P w K mg base bG 4 f fd ["_law_cells_here","_law_drawn"] qM:=by
 have sc:=xD;walk_at "f"
 ·obtain⟨lc,td,lb,cells,p,sg,dear,side,lim,rfl,_⟩:=h;rfl
 ·obtain⟨lc,td,lb,cells,p,sg,dear,side,lim,rfl,hlc,hc1,hc14,htd,hlb,hp4,hpn,hsg,hd1,hd9,hdl,hs6,q⟩:=h
  have hu:=hr.units;refine⟨_,(af (aB (i:=2) sc.nd rfl (Or.inl rfl) (bH ad))
   (af (aB (i:=3) sc.nd rfl (Or.inl rfl) (bH ad))
   (af (bw PassesOwn.never rfl (cE (ak 0)) (ay (i:=4) sc.nd rfl (Or.inl rfl))
   (ah (bv (aI zCe (hr.mono nofun) rfl ba (aa (ak 2) (aa (ak 3) (aa (ak 4) (aa (ak 1) ad))))))))
   (ah (aE (aL (aa (ak 2) (aa (ak 3) ad)))))))),?_⟩
  walk_at "n";refine⟨Kw _,λlr hlr=>h1 _ _ ?_⟩;walk_at "nc";refine⟨Kw _,λls hls=>h1 _ _ ?_⟩;walk_at "nc";have sA:=(ae (o:=.lst []) hlr).trans (ae (o:=.lst []) hls);refine⟨⟨_,aS.of (sA _ _ hlc)⟩,?_⟩;have flr:ax (ax H lr (.lst [])) ls (.lst []) lr=some (.lst []):=ae hls _ _ ac;have fls:ax (ax H lr (.lst [])) ls (.lst []) ls=some (.lst []):=ac;have hls0:H ls=none:=by
   by_cases e:ls=lr
   ·rw[e];exact hlr
   ·rwa [ao e]at hls
  have hne:lr≠ls:=λe=>by rw[<- e,ac]at hls;cases hls
  generalize ax (ax H lr (.lst [])) ls (.lst [])=H1 at sA flr fls ⊢;refine dn (xs:=cells.map V.int) (λi σ H'=>az H H'/\i<=cells.length/\(∃ts rs zs,GS H' p sg lim lr ls ts rs zs/\rs.length<=i/\zs.length<=i/\(1<=i->zs≠[]))/\∃z,σ=[some (V.ref lc),some (V.ref td),some (V.ref lr),some (V.ref ls),z])
   ⟨sA,Kw _,⟨[],[],[],⟨⟨flr,rfl,λi t r e=>by simp at e⟩,λr hr=>(nomatch hr),fls,λz hz=>(nomatch hz),λz hz=>(nomatch hz),hne⟩,Kv _,Kv _,λh=>absurd h nofun⟩,_,rfl⟩ (λi σ H' _ h=>aS.of (h.1 _ _ hlc)) ?_ ?_
  ·rintro i x σ H' hx ⟨sm,_,⟨ts,rs,zs,g,hrl,hzl,hn⟩,z,rfl⟩
   rw[Ka]at hx;obtain⟨c,hc,rfl⟩:=Kz.mp hx;have hi1:i<cells.length:=(J8.mp hc).1;walk_at "wp";refine⟨lr,ls,td,lb,ts,rs,zs,p,sg,c,dear,side,lim,rfl,g,sm _ _ htd,sm _ _ hlb,hp4,hpn,hsg,hd1,hd9,hdl,hs6,⋯,⋯,λH2 ts' rs' zs' g' sB l1 l2 hne'=>?_⟩;refine⟨λy u e=>sB y u (aC e hlr) (aC e hls0) (sm y u e),hi1,ts',rs',zs',g',⋯,⋯,λ_=>hne' ?_⟩
   by_cases h0:i=0
   ·exact .inr (KP.mp ⋯)
   ·exact .inl (hn ⋯)
  ·rintro σ H' ⟨sm,_,⟨ts,rs,zs,g,hrl,hzl,hn⟩,z,rfl⟩
   refine h1 _ _ ?_;walk_at "wp";rw[J_]at hrl hzl hn;exact⟨al nofun,λtp htp=>q tp lr ls ts rs zs _ ac (g.up (ae htp)) ⋯ (hn hc1) ⋯ (sm.trans (ae htp))⟩
theorem Sd.uniq{rs:Yaa}{t:bD}{p p':TR}{pc pc':bF}(h:Sd rs t p pc)(h':Sd rs t p' pc'):p=p':=by
 induction h generalizing p' pc' with
 | @cell n v e=>
  cases h' with
  |cell e'=>rw[e]at e';cases e';rfl
 | @turn n v t r c k pc e _ ih=>
  cases h' with
  |turn e' s'=>
   rw[e]at e';cases e'
   have:=ih s';simp only[Prod.mk.injEq,true_and]at this;obtain⟨rfl,rfl,rfl⟩:=this
   rfl
 | @beside n v t1 t2 r c1 c2 k1 k2 q1 q2 pc e _ _ m ih1 ih2=>
  cases h' with
  |beside e' s1 s2 m'=>
   rw[e]at e';cases e'
   have h1:=ih1 s1;have h2:=ih2 s2;simp only[Prod.mk.injEq,true_and]at h1 h2;obtain⟨rfl,rfl,rfl⟩:=h1;obtain⟨_,rfl,rfl⟩:=h2
   rfl
  |above e' s1 s2 m'=>rw[e]at e';cases e'
 | @above n v t1 t2 r1 r2 c k1 k2 q1 q2 pc e _ _ m ih1 ih2=>
  cases h' with
  |above e' s1 s2 m'=>
   rw[e]at e';cases e'
   have h1:=ih1 s1;have h2:=ih2 s2;simp only[Prod.mk.injEq,true_and]at h1 h2;obtain⟨rfl,rfl,rfl⟩:=h1;obtain⟨rfl,_,rfl⟩:=h2
   rfl
  |beside e' s1 s2 m'=>rw[e]at e';cases e'
theorem fZ{F:TR->List bD}:∀{ps:List TR} {ts:List bD},ts∈bt F ps->ts.length=ps.length/\∀(i:Nat) t p,ts[i]?=some t->ps[i]?=some p->t∈F p
 | [],ts,h=>by
  have:ts=[]:=by simpa[bt]using h
  subst this;exact⟨rfl,λi t p e=>by simp at e⟩
 |p::ps,ts,h=>by
  obtain⟨t,ht,h⟩:=List.mem_flatMap.mp h;obtain⟨us,hus,rfl⟩:=KQ.mp h;obtain⟨h1,h2⟩:=fZ hus;refine⟨by rw[Ki,Ki,h1],λi t' p' e1 e2=>?_⟩;cases i with
  |zero=>cases e1;cases e2;exact ht
  |succ i=>exact h2 i t' p' e1 e2
theorem Gy{v:RV}{p1 p2:bF}{r c c':Nat}(h1:eF p1 r c)(h2:eF p2 r c')(h:c+c'<=6):gu 1 v [p1,p2]=some (put2 p1 p2):=by
 show(if p1.length=p2.length/\(p1.headD []).length+(p2.headD []).length<=6 then some (put2 p1 p2) else none)=_;rw[bp h1.rc h1.r0,bp h2.rc h2.r0,h1.rc.1,h2.rc.1,if_pos ⟨rfl,h⟩]
theorem Gf{v:RV}{p1 p2:bF}{r r' c:Nat}(h1:eF p1 r c)(h2:eF p2 r' c)(h:r+r'<=6):gu 2 v [p1,p2]=some (p1++p2):=by
 show(if(p1.headD []).length=(p2.headD []).length/\p1.length+p2.length<=6 then some (p1++p2) else none)=_;rw[bp h1.rc h1.r0,bp h2.rc h2.r0,h1.rc.1,h2.rc.1,if_pos ⟨rfl,h⟩]
theorem Bt{α:Type}{ts:List α}(h:ts.length=2):∃a b,ts=[a,b]:=by
 match ts,h with
 | [a,b],_=>exact⟨a,b,rfl⟩
theorem EU{α:Type}{ts:List α}(h:ts.length=1):∃a,ts=[a]:=by
 match ts,h with
 | [a],_=>exact⟨a,rfl⟩
theorem yz{rs:Yaa}(hg:∀r∈rs,dD r):∀(f:Nat) (p:TR) (t:bD),dW p->p.2.2.2<(f:Int)->t∈RT rs p->∃pc,Sd rs t p pc
 |0,p,t,ok,h,ht=>by
  have:t∈D4 rs 17 p:=ht;rw[mj ok (by simp at h;omega)]at this;cases this
 |f+1,p,t,ok,h,ht=>by
  have gc:=iD hg;rw[mB gc ok]at ht;obtain⟨s,hs,ht⟩:=List.mem_flatMap.mp ht;obtain⟨ts,hts,rfl⟩:=KQ.mp ht;obtain⟨hl,hm⟩:=fZ hts;have ih:∀p'∈s.2.1,∀t'∈RT rs p',∃pc,Sd rs t' p' pc:=λp' hp' t' ht'=>by
   obtain⟨ok',lt'⟩:=dY gc ok hs hp';exact yz hg f p' t' ok' (by push_cast at h;omega) ht'
  obtain⟨q,hq,hn,hps,_,_,_⟩:=fb hs;have hgq:=hg q (Kb hq);have h4:=hgq.k4;obtain⟨nm,r,c,k⟩:=p;obtain⟨n,ps,m⟩:=s;obtain⟨kd,v⟩:=q;have r6:r<=6:=ok.r6;have c6:c<=6:=ok.c6;have r1:1<=r:=ok.r1;have c1:1<=c:=ok.c1;have hn:v.n=nm:=hn;subst hn;simp only at hq hps hl hm ih ⊢;have hk:kd=0\/kd=1\/kd=2\/kd=3:=by simp at h4;omega
  rcases hk with rfl | rfl | rfl | rfl
  ·have hps0:ps∈(if r=1/\c=1/\k=v.c then[[]] else[]):=hps
   clear hps
   by_cases hh:r=1/\c=1/\k=v.c
   ·rw[if_pos hh]at hps0
    obtain⟨rfl,rfl,rfl⟩:=hh;have:ps=[]:=by simpa using hps0
    subst this;have:ts=[]:=KP.mp hl;subst this;exact⟨_,.cell hq⟩
   ·rw[if_neg hh]at hps0
    cases hps0
  ·have hps:ps∈aX v.o1 v.o2 (eY r c) (k-v.c):=hps
   obtain⟨z,hz,hps⟩:=List.mem_flatMap.mp hps;obtain⟨f',hf,rfl⟩:=KQ.mp hps;obtain⟨j,hj,rfl⟩:=KQ.mp hz;have hj:=List.mem_range.mp hj;obtain⟨a,b,rfl⟩:=Bt hl;obtain⟨pa,sa⟩:=ih _ (by simp) a (hm 0 a _ rfl rfl);obtain⟨pb,sb⟩:=ih _ (by simp) b (hm 1 b _ rfl rfl);have m1:=Gy (v:=v) (sa.pic hg) (sb.pic hg) (by show 1+j+(c-(1+j))<=6;omega);have h1:=Sd.beside hq sa sb m1;rw[show 1+j+(c-(1+j))=c by omega,show v.c+(f'+(k-v.c-f'))=k by omega]at h1;exact⟨_,h1⟩
  ·have hps:ps∈aX v.o1 v.o2 (fj r c) (k-v.c):=hps
   obtain⟨z,hz,hps⟩:=List.mem_flatMap.mp hps;obtain⟨f',hf,rfl⟩:=KQ.mp hps;obtain⟨j,hj,rfl⟩:=KQ.mp hz;have hj:=List.mem_range.mp hj;obtain⟨a,b,rfl⟩:=Bt hl;obtain⟨pa,sa⟩:=ih _ (by simp) a (hm 0 a _ rfl rfl);obtain⟨pb,sb⟩:=ih _ (by simp) b (hm 1 b _ rfl rfl);have m1:=Gf (v:=v) (sa.pic hg) (sb.pic hg) (by show 1+j+(r-(1+j))<=6;omega);have h1:=Sd.above hq sa sb m1;rw[show 1+j+(r-(1+j))=r by omega,show v.c+(f'+(k-v.c-f'))=k by omega]at h1;exact⟨_,h1⟩
  ·have hps:ps∈[[(v.o1,(if v.t%2=1 then c else r),(if v.t%2=1 then r else c),k-v.c)]]:=hps
   have:ps=[(v.o1,(if v.t%2=1 then c else r),(if v.t%2=1 then r else c),k-v.c)]:=by simpa using hps
   subst this;obtain⟨a,rfl⟩:=EU hl;obtain⟨pa,sa⟩:=ih _ (by simp) a (hm 0 a _ rfl rfl);have h1:=Sd.turn hq sa;rw[show v.c+(k-v.c)=k by omega]at h1
   by_cases o:v.t%2=1
   ·simp only[if_pos o]at h1;exact⟨_,h1⟩
   ·simp only[if_neg o]at h1;exact⟨_,h1⟩
theorem jS{o1 o2:K7}{left:Int}:∀{szs:List ((Nat×Nat)×(Nat×Nat))},szs.Pairwise (λa b=>a.1≠b.1)->(aX o1 o2 szs left).Pairwise (·≠·):=fun{szs} h=>by
 unfold aX;refine List.pairwise_flatMap.mpr ⟨λz hz=>?_,h.imp fun{a b} hab x hx y hy e=>?_⟩
 ·rw[List.pairwise_map]
  have:(j3 (fw z.1.1 z.1.2) (left-fw z.2.1 z.2.2+1)).Pairwise (·≠·):=by
   unfold j3;rw[List.pairwise_map];exact(List.nodup_range).imp fun{a b} hab e=>hab ⋯
  exact this.imp fun{a b} hab e=>hab (by simp only[List.cons.injEq,Prod.mk.injEq]at e;exact e.1.2.2.2)
 ·obtain⟨f1,_,rfl⟩:=KQ.mp hx
  obtain⟨f2,_,rfl⟩:=KQ.mp hy;simp only[List.cons.injEq,Prod.mk.injEq]at e;exact hab (Prod.ext e.1.2.1 e.1.2.2.1)
theorem vM{q:Nat×RV}{r c:Nat}{k:Int}(h4:q.1<4):(cr q r c k).Pairwise (·≠·):=by
 obtain⟨t,v⟩:=q;have:t=0\/t=1\/t=2\/t=3:=by simp at h4;omega
 rcases this with rfl | rfl | rfl | rfl
 ·show(if r=1/\c=1/\k=v.c then[[]] else[]:List (List TR)).Pairwise (·≠·)
  split<;>simp
 ·refine jS ?_
  unfold eY;rw[List.pairwise_map];exact(List.nodup_range).imp fun{a b} hab e=>hab (by simp only[Prod.mk.injEq]at e;omega)
 ·refine jS ?_
  unfold fj;rw[List.pairwise_map];exact(List.nodup_range).imp fun{a b} hab e=>hab (by simp only[Prod.mk.injEq]at e;omega)
 ·show([[_]]:List (List TR)).Pairwise (·≠·)
  simp
theorem wa(z:Str)(rs:Yaa):(bM z rs).Pairwise (·≠·):=by
 unfold bM;rw[List.pairwise_filterMap];have:rs.zipIdx.Pairwise (λa b=>a.2≠b.2):=by
  have h:=List.nodup_range (n:=rs.length);rw[List.range_eq_range',<- List.zipIdx_map_snd 0 rs]at h;exact(List.pairwise_map.mp h)
 refine this.imp fun{a b} hab x hx y hy e=>hab ?_
 split at hx
 ·split at hy
  ·cases hx;cases hy;exact e
  ·cases hy
 ·cases hx
theorem uQ{rs:Yaa}(gc:dE rs)(p:TR):(aN rs p).Pairwise (λa b=>a.1≠b.1\/a.2.1≠b.2.1):=by
 unfold aN
 split
 ·exact List.Pairwise.nil
 ·refine List.pairwise_flatMap.mpr ⟨λi hi=>?_,(wa _ _).imp fun{a b} hab x hx y hy=>.inl λe=>?_⟩
  ·obtain⟨q,hq,_⟩:=eZ hi
   unfold cJ;rw[hq]
   try dsimp only
   rw[List.pairwise_filterMap];refine(vM (gc q (Kb hq)).1).imp fun{a b} hab x hx y hy=>.inr λe=>hab ?_
   split at hx
   ·split at hy
    ·cases hx;cases hy;exact e
    ·cases hy
   ·cases hx
  ·have key:∀{i:Nat} {x:uy},x∈cJ rs p i->x.1=i:=fun{i x} hx=>by
    unfold cJ at hx
    split at hx
    ·obtain⟨ps,_,e⟩:=List.mem_filterMap.mp hx
     split at e
     ·cases e;rfl
     ·cases e
    ·cases hx
   exact hab (by rw[<- key hx,<- key hy];exact e)
theorem nU{F:TR->List bD}:∀{ps:List TR},(∀p∈ps,(F p).Pairwise (·≠·))->(bt F ps).Pairwise (·≠·)
 | [],_=>by unfold bt;simp
 |p::ps,h=>by
  unfold bt;refine List.pairwise_flatMap.mpr ⟨λt ht=>?_,(h p List.mem_cons_self).imp fun{a b} hab x hx y hy e=>?_⟩
  ·rw[List.pairwise_map]
   exact(nU λp' hp'=>h p' (Kn _ hp')).imp fun{a b} hab e=>hab (by cases e;rfl)
  ·obtain⟨u,_,rfl⟩:=KQ.mp hx
   obtain⟨w,_,rfl⟩:=KQ.mp hy;cases e;exact hab rfl
theorem y0{i j:Int}{a b:List bD}(ha:a.length<=2)(hb:b.length<=2)(h:ve i a=ve j b):i=j/\a=b:=
 ⟨by rw[<- yt i a,h,yt],by rw[<- uo i ha,h,uo j hb]⟩
theorem wg{rs:Yaa}(hg:∀r∈rs,dD r):∀(f:Nat) (p:TR),dW p->p.2.2.2<(f:Int)->(RT rs p).Pairwise (·≠·)
 |0,p,ok,h=>by
  show(D4 rs 17 p).Pairwise (·≠·);rw[mj ok (by simp at h;omega)];exact List.Pairwise.nil
 |f+1,p,ok,h=>by
  have gc:=iD hg;have len2:∀s∈aN rs p,s.2.1.length<=2:=λs hs=>by
   obtain⟨q,hq,_,hps,_⟩:=fb hs;rcases dc (gc q (Kb hq)).1 ok.r1 ok.c1 hps with e | ⟨p',e,_⟩ | ⟨_,z,f,sz,f1,f2,e⟩<;>rw[e]<;>simp
  rw[mB gc ok];refine List.pairwise_flatMap.mpr ⟨λs hs=>?_,(uQ gc p).imp_of_mem fun{s s'} hs hs' hne x hx y hy e=>?_⟩
  ·rw[List.pairwise_map]
   refine(nU λp' hp'=>?_).imp_of_mem fun{a b} ha hb hab e=>hab (y0 (by rw[(fZ ha).1];exact len2 s hs) (by rw[(fZ hb).1];exact len2 s hs) e).2;obtain⟨ok',lt'⟩:=dY gc ok hs hp';exact wg hg f p' ok' (by push_cast at h;omega)
  ·obtain⟨ts,hts,rfl⟩:=KQ.mp hx
   obtain⟨us,hus,rfl⟩:=KQ.mp hy;obtain⟨l1,m1⟩:=fZ hts;obtain⟨l2,m2⟩:=fZ hus;obtain⟨e1,e2⟩:=y0 (by rw[l1];exact len2 s hs) (by rw[l2];exact len2 s' hs') e;subst e2;have hps:s.2.1=s'.2.1:=List.ext_getElem ⋯ λi h1 h2=>by
    have hi:i<ts.length:=by omega
    have a1:=m1 i _ _ (J7 hi) (J7 h1);have a2:=m2 i _ _ (J7 hi) (J7 h2);obtain⟨ok1,lt1⟩:=dY gc ok hs (Kf h1);obtain⟨ok2,lt2⟩:=dY gc ok hs' (Kf h2);obtain⟨_,d1⟩:=yz hg 17 _ _ ok1 (by have:=ok1.k16;push_cast;omega) a1;obtain⟨_,d2⟩:=yz hg 17 _ _ ok2 (by have:=ok2.k16;push_cast;omega) a2;exact d1.uniq d2
   rcases hne with h1 | h1
   ·exact h1 ⋯
   ·exact h1 hps
theorem Eh{rs:Yaa}(hg:∀r∈rs,dD r){p:TR}(ok:dW p){i j:Nat}{t:bD}(h1:(RT rs p)[i]?=some t)(h2:(RT rs p)[j]?=some t):i=j:=
 (List.getElem?_inj (J8.mp h1).1 (wg hg 17 p ok (by have:=ok.k16;push_cast;omega))).mp (h1.trans h2.symm)
theorem lu{o1 o2:K7}{left:Int}{r c:Nat}(h8:left<=8):∀(szs:List ((Nat×Nat)×(Nat×Nat))),(∀z∈szs,vy r c z)->(aX o1 o2 szs left).length<=szs.length*7
 | [],_=>Kv _
 |z::szs,h=>by
  have ih:=lu (o1:=o1) (o2:=o2) h8 szs λz' hz'=>h z' (Kn _ hz');have f1:=bP (h z List.mem_cons_self).a (h z List.mem_cons_self).b;have f2:=bP (h z List.mem_cons_self).d (h z List.mem_cons_self).e;unfold aX at ih ⊢;rw[List.flatMap_cons,Ku,Ki,J_];unfold j3 at ih ⊢;rw[J_,List.length_range];omega
theorem At{f:TR->Nat}{o1 o2:K7}{left:Int}{r c M:Nat}{szs:List ((Nat×Nat)×(Nat×Nat))}{ps:List TR}(hs:∀z∈szs,vy r c z)(h:ps∈aX o1 o2 szs left)(hf:∀p∈ps,4*f p<=2 ^ (7*p.2.2.2.toNat))(hM:2 ^ (7*left.toNat)<=M):16*aJ f ps<=M:=by
 obtain⟨z,hz,h⟩:=List.mem_flatMap.mp h;obtain⟨x,hx,rfl⟩:=KQ.mp h;have hx:=ki.mp hx;have g1:=bP (hs z hz).a (hs z hz).b;have g2:=bP (hs z hz).d (hs z hz).e;have h1:=hf _ List.mem_cons_self;have h2:=hf _ (Kn _ List.mem_cons_self);show 16*(1*f _*f _)<=_;rw[Nat.one_mul];refine KD ?_ hM;have e:7*left.toNat=7*x.toNat+7*(left-x).toNat:=by omega
 rw[e,Nat.pow_add];refine KD (Nat.le_of_eq ?_) (Nat.mul_le_mul h1 h2);rw[show(16:Nat)=4*4 from rfl,Nat.mul_mul_mul_comm]
theorem B5{rs:Yaa}(gc:dE rs)(h12:rs.length<=12):∀(f:Nat) (p:TR),p.2.1<=6->p.2.2.1<=6->p.2.2.2<=9->4*cnt rs f p<=2 ^ (7*p.2.2.2.toNat)
 |0,_,_,_,_=>Kw _
 |f+1,p,hr6,hc6,hk=>by
  unfold cnt
  split
  ·exact Kw _
  ·rename_i hn
   have hr:1<=p.2.1:=by omega
   have hc:1<=p.2.2.1:=by omega
   have k1:1<=p.2.2.2:=by have:=bP hr hc;omega
   have e:2 ^ (7*p.2.2.2.toNat)=128*2 ^ (7*(p.2.2.2-1).toNat):=by
    rw[show 7*p.2.2.2.toNat=7+7*(p.2.2.2-1).toNat by omega,Nat.pow_add]
   have hM1:1<=2 ^ (7*(p.2.2.2-1).toNat):=Nat.one_le_two_pow;have mono:∀{a:Int},a<=p.2.2.2-1->2 ^ (7*a.toNat)<=2 ^ (7*(p.2.2.2-1).toNat):=λh=>Nat.pow_le_pow_right nofun ⋯;rw[e];generalize 2 ^ (7*(p.2.2.2-1).toNat)=M at hM1 mono;have hq1:∀q∈fS p.1 rs,((cr q p.2.1 p.2.2.1 p.2.2.2).map λps=>aJ (cnt rs f) ps).sum<=128*M/48:=λq hq=>by
    obtain⟨q4,qc,_⟩:=gc q (gF hq).1;have ih:∀ps∈cr q p.2.1 p.2.2.1 p.2.2.2,∀p'∈ps,4*cnt rs f p'<=2 ^ (7*p'.2.2.2.toNat):=λps hps p' hp'=>by
     have po:=jK q4 qc hr hc hps hp';have:=po.rm;have:=po.cm;have:=po.lt;exact B5 gc h12 f p' ⋯ ⋯ ⋯
    obtain⟨t,v⟩:=q;have qc:1<=v.c:=qc;have ht:t=0\/t=1\/t=2\/t=3:=by simp at q4;omega
    have ybL:∀szs:List ((Nat×Nat)×(Nat×Nat)),(∀z∈szs,vy p.2.1 p.2.2.1 z)->szs.length<=5->(∀ps∈aX v.o1 v.o2 szs (p.2.2.2-v.c),∀p'∈ps,4*cnt rs f p'<=2 ^ (7*p'.2.2.2.toNat))->((aX v.o1 v.o2 szs (p.2.2.2-v.c)).map λps=>aJ (cnt rs f) ps).sum<=128*M/48:=λszs hs h5 ih=>by
     have hl:=lu (o1:=v.o1) (o2:=v.o2) (left:=p.2.2.2-v.c) ⋯ szs hs;refine KD (iW _ (M/16) _ λps hps=>?_) ?_
     ·have:=At hs hps (ih ps hps) (mono (a:=p.2.2.2-v.c) ⋯)
      omega
     ·have h35:(aX v.o1 v.o2 szs (p.2.2.2-v.c)).length<=35:=by omega
      refine KD (Nat.mul_le_mul_right _ h35) ?_;omega
    rcases ht with rfl | rfl | rfl | rfl
    ·have:(cr (0,v) p.2.1 p.2.2.1 p.2.2.2)=(if p.2.1=1/\p.2.2.1=1/\p.2.2.2=v.c then[[]] else[]):=rfl
     rw[this]
     split
     ·show 1+0<=_
      omega
     ·show 0<=_
      omega
    ·exact ybL _ (λz hz=>kf hr hz) (by rw[iO];omega) ih
    ·exact ybL _ (λz hz=>kb hc hz) (by rw[iA];omega) ih
    ·have e3:(cr (3,v) p.2.1 p.2.2.1 p.2.2.2)=[[(v.o1,(if v.t%2=1 then p.2.2.1 else p.2.1),(if v.t%2=1 then p.2.1 else p.2.2.1),p.2.2.2-v.c)]]:=rfl
     have h1:=ih _ (by rw[e3];exact J'.mpr rfl) _ (J'.mpr rfl);rw[e3];show 1*cnt rs f _+0<=_;have h2:=KD h1 (mono (a:=p.2.2.2-v.c) ⋯);omega
   have hs:=iW _ (128*M/48) _ hq1;have hl:(fS p.1 rs).length<=12:=KD (List.length_filter_le _ _) h12;have:=KD hs (Nat.mul_le_mul_right _ hl);omega
theorem EG{rs:Yaa}(gc:dE rs)(h12:rs.length<=12){p:TR}(hr:p.2.1<=6)(hc:p.2.2.1<=6)(hk:p.2.2.2<=9):CN rs p<=2 ^ 61:=by
 have h1:4*CN rs p<=2 ^ (7*p.2.2.2.toNat):=B5 gc h12 17 p hr hc hk;have h2:2 ^ (7*p.2.2.2.toNat)<=2 ^ 63:=Nat.pow_le_pow_right nofun ⋯;have h3:(2:Nat) ^ 63=4*2 ^ 61:=by decide
 omega
theorem r9{F:TR->List bD}:∀{ps:List TR} {ts:List bD},ts.length=ps.length->(∀(i:Nat) t p,ts[i]?=some t->ps[i]?=some p->t∈F p)->ts∈bt F ps
 | [],ts,hl,_=>by
  have:ts=[]:=KP.mp hl;subst this;simp[bt]
 |p::ps,[],hl,_=>by simp at hl
 |p::ps,t::ts,hl,h=>List.mem_flatMap.mpr ⟨t,h 0 t p rfl rfl,KQ.mpr ⟨ts,r9 (by simpa using hl) λi t' p' e1 e2=>h (i+1) t' p' e1 e2,rfl⟩⟩
theorem Sd.mem{rs:Yaa}(hg:∀r∈rs,dD r):∀(n:Nat) {t:bD} {p:TR} {pc:bF},t.dep<=n->Sd rs t p pc->p.2.2.2<=16->t∈RT rs p
 |0,t,p,pc,h,_,_=>absurd t.dep1 ⋯
 |n+1,t,p,pc,h,sd,k16=>by
  have gc:=iD hg;have ok:=sd.row hg k16;obtain⟨m,q0,ps,hi,hq,hnm,hpl,hp2,hpp,hpr⟩:=sd.node hg;have hts:t.ps∈bt (RT rs) ps:=r9 hpl.symm λi t' p' e1 e2=>by
   obtain⟨pc',sd',lt'⟩:=hpp i t' p' e1 e2;have:=(bD.lt (Kb e1)).1;exact Sd.mem hg n ⋯ sd' ⋯
  have okp:∀p'∈ps,dW p':=λp' hp'=>by
   obtain⟨i,hi,e⟩:=List.getElem_of_mem hp';have e2:ps[i]?=some p':=by rw[J7 hi,e]
   obtain⟨pc',sd',lt'⟩:=hpp i (t.ps[i]'⋯) p' (J7 ⋯) e2;exact sd'.row hg ⋯
  have h0:0<aJ (CN rs) ps:=by
   have:=List.length_pos_of_mem hts
   rwa [eV (g:=CN rs) λp' hp'=>ce gc (okp p' hp')]at this
  rw[mB gc ok];refine List.mem_flatMap.mpr ⟨_,yp hq hnm hpr h0 (sd.low hg).1,KQ.mpr ⟨t.ps,hts,?_⟩⟩;show ve (m:Int) t.ps=t;rw[<- hi,yC]
noncomputable abbrev lz:Stmt:=iZ 48
noncomputable def EK(H:Hp)(l:Addr)(ts:List bD):Prop:=∃vs,H l=some (.lst vs)/\aR H (ts.map bD.d) vs
inductive nY(R:RC)(CG CN_ CM_:Addr)(vs:List V)(H:Hp)(Q:VK)(E:XK):Prop
 |mk (g dg:Addr) (sg st:K7) (as:La) (rs:Yaa) (m:Nat) (p:TR) (_:vs=[.ref g,.str (tx p.1),.int (p.2.1:Int),.int (p.2.2.1:Int),.int p.2.2.2]) (_:dC R H CG dg g sg st as rs) (_:so st rs m) (_:((qR st rs m p/\(CN rs p<=300->∀l H',H l=none->EK H' l (RT rs p)->az H H'->Q (.ref l) H')/\(300<CN rs p->∀H',az H H'->E (.ref CM_) none H'))\/(tx p.1∉(aY (tx st) rs).map (·.1)/\∀H',az H H'->E (.ref CN_) none H')))
theorem vL:av ["grammar","name","rows","columns","cost","tree_rows","row","many"] ["grammar","name","rows","columns","cost"] (ai lz):=by walk_at "c"
theorem vY{R:RC}{f CG CT yaa yac yag:Addr}{fd:Lc}{tk:Tok}(F:cy K "trees_of" "trees_of" lz f fd)(nb:NB mg)(ct:fD K CT)(nt:aq K CT "grammar"/\aq K CT "steps"/\aq K CT "totals")(ya0:mg "MOST_TREES"=some (.int 300 tk))(ybm:mg "TooMany"=some (.ref yag))(ybk:XR K yag)
  (yak:kT P w K mg base bG 1 "TreeRows" CT ["self","grammar"] (eS K)) (yaf:bX P w K mg base (bz P w) 72 CT "many_in" ["self","row"] (bo R CG CT yaa 17)) (yau:bX P w K mg base (bz P w) 107 CT "tree_in" ["self","row","k"] (b8 R CG CT yaa yac 17)) :
  aQ P w K mg base (bz P w) 108 f fd ["grammar","name","rows","columns","cost"] (nY R CG yaa yag):=by
 have sc:=vL;walk_at "x"
 ·obtain⟨g,dg,sg,st,as,rs,m,p,rfl,_⟩:=h;rfl
 ·obtain⟨g,dg,sg,st,as,rs,m,p,rfl,gr,ok,cs⟩:=h
  have hu:=hr.units;refine⟨_,(af (aB (i:=5) sc.nd rfl (Or.inr rfl) (fQ yak (hr.mono nofun) rfl ba (aa (ak 0) ad)))
   (af (aB (i:=6) sc.nd rfl (Or.inr rfl) (aL (aa (ak 1) (aa (ak 2) (aa (ak 3) (aa (ak 4) ad))))))
   (af (aB (i:=7) sc.nd rfl (Or.inl rfl) (bJ yaf (hr.mono nofun) (aV λ_ _ _ h=>h) (ak 5) (aa (ak 6) ad)))
   (af (bE (aH (bd.m0 jo) (ak 7) (dG (v:=.int 300) rfl ya0 ⟨_,rfl⟩) (aO _))
   (ah (dq ybk rfl rfl ybm (eD λ_ _ _ h=>h) (bL ad)))
   aM)
   (ah (aE (cH ["k"] [5,6] rfl (bB.of (by kernel_rfl)) (by kernel_rfl) (dR rfl nb.range (aa (ak 7) ad))
    (λ_ _ _ _=>(ay (i:=0) (by show(["k","tree_rows","row"]:List Str).Nodup;decide +kernel) rfl (Or.inl rfl))) (λ_ _ _ _=>bU) (λ_ _ _ _=>(bJ (CX:=bz P w) yau (hr.mono nofun) bc (ak 1) (aa (ak 2) (aa (ak 0) ad))))))))))),?_⟩
  walk_at "n";intro x dx hx hdx hne;have sm1:az H (ax (ax H dx (.own x)) x (.ins CT dx [])):=(ae hdx).trans (ae (by rw[ao (Ne.symm hne)];exact hx));refine⟨x,CT,dx,g,rfl,ac,ct.cl,nt,λd1 d2 H2 f1 f2 n12 ex ed1 ed2 sx=>⟨rfl,h1 _ _ ?_⟩⟩;clear h1;have s2:az H H2:=λy u e=>sx y u (aC e hx) (sm1 y u e);walk_at "n";refine⟨al nofun,λb hb=>h1 _ _ ?_⟩;clear h1;have s3:=ae (o:=.tup (cL p)) hb;have s03:=s2.trans s3;have te:gv R CG CT (ax H2 b (.tup (cL p))) x dx g dg d1 d2 sg st as rs m:=x4 gr ok s03 n12 (s3 _ _ ex) (s3 _ _ ed1) (s3 _ _ ed2);have eb:ax H2 b (.tup (cL p)) b=some (.tup (cL p)):=ac;have fin:∀{H4},bV d1 d2 (ax H2 b (.tup (cL p))) H4->az H H4:=λsd y u e=>sd y u (λz=>by rw[z,sm1.free f1]at e;cases e) (λz=>by rw[z,sm1.free f2]at e;cases e) (s03 y u e);have nod:∀{y},ax H2 b (.tup (cL p)) y=none->H y=none:=λh=>gG s03 h;change gv R CG CT (ax H2 b (HO.tup (cL p))) x dx g dg d1 d2 sg st as rs m at te;rw[show[V.str (tx p.1),V.int (p.2.1:Int),V.int (p.2.2.1:Int),V.int p.2.2.2]=cL p from rfl];generalize ax H2 b (.tup (cL p))=H3 at te eb fin nod ⊢;walk_at "n";refine⟨dx,_,te.at_,rfl,x,dx,g,dg,d1,d2,b,sg,st,as,rs,m,p,rfl,te,eb,?_⟩;rcases cs with⟨dp,q,bad⟩ | ⟨nn,ex'⟩
  rotate_left
  ·exact .inr ⟨nofun,nn,ex' _ (fin λ_ _ _ _ e=>e)⟩
  refine .inl ⟨dp,nofun,by have:=dp.k16;omega,λH4 sd4 mm4=>h1 _ _ ?_⟩;clear h1;have ok6:=dp.row ok.m6;have hlen:=ce ok.gc ok6;walk_at "n";refine fq (λt1=>?_) (λt1=>?_)
  ·exact⟨al nofun,bad ⋯ H4 (fin sd4)⟩
  refine h1 _ _ ?_;clear h1;walk_at "wp";refine⟨⋯,⋯,?_⟩;rw[Kg];refine fh (lo:=0) (n:=CN rs p) (λi acc σ H'=>bV d1 d2 H3 H'/\dI st rs m H' d1 d2/\i<=CN rs p/\aR H' (((RT rs p).take i).map bD.d) acc/\∃z,σ=[z,some (V.ref x),some (V.ref b)]) ⟨sd4,mm4,Kw _,by rw[K2];exact aR.nil,_,rfl⟩ ?_ ?_ ?_ ?_
  ·rintro i acc σ H' ⟨_,_,hi,htr,_⟩
   rw[htr.length,J_,KM];exact bf ⋯
  ·rintro i acc σ H' ⟨_,_,h,_⟩
   exact h
  ·rintro i acc σ H' hi ⟨sd,mm,_,htr,y,rfl⟩
   have te':=te.next sd mm;obtain⟨t,ht⟩:∃t,(RT rs p)[i]?=some t:=⟨_,J7 ⋯⟩;walk_at "wp";refine⟨dx,_,te'.at_,rfl,x,dx,g,dg,d1,d2,b,sg,st,as,rs,m,p,(i:Int),by simp,te',(te.kp sd).tup eb,nofun,.inl ⟨dp,by have:=dp.k16;omega,λj t' hj ht' v H5 sd5 mm5 hv=>?_,λh=>absurd h ⋯⟩⟩;have hj:i=j:=by omega
   subst hj;rw[ht]at ht';cases ht';refine⟨sd.trans sd5,mm5,hi,?_⟩;rw[qg ht,Kj];exact aR.app (aR.up (λb xs e=>(te'.kp sd5).tup e) _ htr) (aR.cons hv aR.nil)
  ·rintro acc σ H' ⟨sd,mm,_,htr,y,rfl⟩ l hl
   have s':=ae (o:=.lst acc) hl;refine q ⋯ l _ (gG (fin sd) hl) ⟨acc,ac,?_⟩ ((fin sd).trans s');rw[<- hlen,KL]at htr;exact aR.up (ij.of s') _ htr
theorem yH:∀t:bD,Dt.dep t.d=t.dep
 | .n0 i=>rfl
 | .n1 i a=>by simp only[bD.d,Dt.dep,Dt.deps,bD.dep,yH a];omega
 | .n2 i a b=>by simp only[bD.d,Dt.dep,Dt.deps,bD.dep,yH a,yH b];omega
noncomputable abbrev sj:Stmt:=iZ 71
inductive tO(K:W.Frag)(vs:List V)(H:Hp)(Q:VK)(_E:XK):Prop
 |mk (a:Addr) (ns:List Int) (_:vs=[.ref a]) (_:aS K H a (ns.map V.int)) (_:∀H',Q (.bl true) H')
theorem Fw:av ["_law_script","_law_drawn","_law_rules","_law_stock","_law_one","_law_grammar_here","_law_name","_law_rows","_law_columns","_law_many","_law_found","_law_begin","_law_k","_law_tree","_law_told"] ["_law_script"] (ai sj):=by walk_at "c"
theorem Fp{R:RC}{f CG yaa yac yag:Addr}{fd:Lc}(F:cy K "law" "law" sj f fd)(nb:NB mg)(zDa:eR P w K mg base bG 1 "_law_cell" ["_law_script","_law_k"] (nI K))(zQd:eR P w K mg base bG 2 "_law_cells" ["_law_script","_law_begin","_law_most"] (pU K))(zCb:eR P w K mg base bG 1 "_law_whole" ["_law_x"] pZ)(zRd:eR P w K mg base bG 1 "_law_signs" ["_law_cell_here","_law_most"] qF)(zSd:eR P w K mg base bG 1 "_law_names" ["_law_cell_here"] qo)
  (zTd:eR P w K mg base bG 4 "_law_grown" ["_law_cells_here","_law_drawn"] qM) (zOb:eR P w K mg base bG 7 "_law_grammar" ["_law_signs_here","_law_start","_law_rules"] (l9 R CG)) (ybb:eR P w K mg base (bz P w) 73 "count_trees" ["grammar","name","rows","columns","cost"] (jr R CG yaa)) (ybh:eR P w K mg base (bz P w) 108 "tree_at" ["grammar","name","rows","columns","cost","k"] (pj R CG yaa yac)) (ybn:eR P w K mg base (bz P w) 90 "number_of" ["grammar","tree"] (lZ R CG)) (ybf:eR P w K mg base (bz P w) 108 "trees_of" ["grammar","name","rows","columns","cost"] (nY R CG yaa yag)):aQ P w K mg base bG 109 f fd ["_law_script"] (tO K):=by
 have sc:=Fw;walk_at "f"
 ·obtain⟨a,ns,rfl,_⟩:=h;rfl
 ·obtain⟨a,ns,rfl,ha,q⟩:=h
  have hu:=hr.units;refine⟨_,(af (aB (i:=1) sc.nd rfl (Or.inl rfl) (aL (aa (aI zRd (hr.mono nofun) rfl ba (aa (aI zDa (hr.mono nofun) rfl ba (aa (ak 0) (bK ad))) (bK ad))) (aa (aI zSd (hr.mono nofun) rfl ba (aa (aI zDa (hr.mono nofun) rfl ba (aa (ak 0) (bK ad))) ad)) (bK (bK (bK ad)))))))
   (af (BY (aI zTd (hr.mono nofun) rfl ba (aa (aI zQd (hr.mono nofun) rfl ba (aa (ak 0) (bK (bK ad)))) (aa (ak 1) ad))) (fG (n:=2) rfl (aK (ay (i:=2) sc.nd rfl (Or.inl rfl)) (aK (ay (i:=3) sc.nd rfl (Or.inl rfl)) cW))))
   (af (aB (i:=4) sc.nd rfl (Or.inl rfl) (aF aZ (ak 3) (aw (bd.m1 bI) (aI zDa (hr.mono nofun) rfl ba (aa (ak 0) (bK ad))) (aA a_ rfl nb.len aW (aa (ak 3) ad))) (λ_ _=>rfl)))
   (af (aB (i:=5) sc.nd rfl (Or.inl rfl) (aI zOb (hr.mono nofun) rfl ba (aa (aF aG (ak 1) aj (λ_ _=>rfl)) (aa (aF aZ (aF aG (ak 1) aj (λ_ _=>rfl)) aj (λ_ _=>rfl)) (aa (ak 2) ad)))))
   (af (aB (i:=6) sc.nd rfl (Or.inl rfl) (aF aG (ak 4) aj (λ_ _=>rfl)))
   (af (aB (i:=7) sc.nd rfl (Or.inl rfl) (aA a_ rfl nb.len aW (aa (aF aG (ak 4) aj (λ_ _=>rfl)) ad)))
   (af (aB (i:=8) sc.nd rfl (Or.inl rfl) (aA aU rfl nb.len aW (aa (aF aZ (aF aG (ak 4) aj (λ_ _=>rfl)) aj (λ_ _=>rfl)) ad)))
   (af (aB (i:=9) sc.nd rfl (Or.inl rfl) (aI (CX:=bz P w) ybb (hr.mono nofun) rfl bc (aa (ak 5) (aa (ak 6) (aa (ak 7) (aa (ak 8) (aa (aF aG (ak 4) aj (λ_ _=>rfl)) ad)))))))
   (af (bE (PW.pt (lm (ly (lj (aI zCb (hr.mono nofun) rfl ba (aa (ak 9) ad)) λ_=>rfl)) (gO (aH (bd.m0 pw) (ak 9) aj (aO _)))))
   (ah (aE yy))
   aM)
   (af (aB (i:=10) sc.nd rfl (Or.inl rfl) nG)
   (af (bE (aH (bd.m0 l6) (ak 9) aj (aO _))
   (ah (aB (i:=10) sc.nd rfl (Or.inl rfl) (aI (CX:=bz P w) ybf (hr.mono nofun) rfl bc (aa (ak 5) (aa (ak 6) (aa (ak 7) (aa (ak 8) (aa (aF aG (ak 4) aj (λ_ _=>rfl)) ad))))))))
   aM)
   (af (aB (i:=11) sc.nd rfl (Or.inl rfl) (aw (bd.m1 bI) (aw (bd.m1 ck) (aI zDa (hr.mono nofun) rfl ba (aa (ak 0) (bK ad))) (aA a_ rfl nb.len aW (aa (ak 3) ad))) (ak 9)))
   (af (bw PassesOwn.never rfl (ib rfl nb.range (aa (ak 11) (aa (aA (zD rfl) rfl nb.min FG (aa (aw (bd.m0 bN) (ak 11) aj) (aa (ak 9) ad))) ad))) (ay (i:=12) sc.nd rfl (Or.inl rfl))
   (af (aB (i:=13) sc.nd rfl (Or.inl rfl) (aI (CX:=bz P w) ybh (hr.mono nofun) rfl bc (aa (ak 5) (aa (ak 6) (aa (ak 7) (aa (ak 8) (aa (aF aG (ak 4) aj (λ_ _=>rfl)) (aa (ak 12) ad))))))))
   (af (bE (PW.pt (lP (aH uD (ak 10) nG (aO _)) (l8 (aH (FW hu) (aF aZ (ak 10) (ak 12) (λ_ _=>rfl)) (ak 13) (aO _)))))
   (ah (aE yy))
   aM)
   (af (aB (i:=14) sc.nd rfl (Or.inl rfl) (aI (CX:=bz P w) ybn (hr.mono nofun) rfl bc (aa (ak 5) (aa (ak 13) ad))))
   (ah (bE (PW.pt (lm (ly (lj (aI zCb (hr.mono nofun) rfl ba (aa (ak 14) ad)) λ_=>rfl)) (gO (aH rG (ak 14) (ak 12) (aO _)))))
   (ah (aE yy))
   aM))))))
   (ah (aE yy))))))))))))))),?_⟩
  walk_at "n";refine⟨a,ns,0,rfl,ha,⋯,λc0=>⟨c0,rfl,λsg H5 hsg s5=>⟨a,ns,1,rfl,s5.seq ha,⋯,λc1=>⟨c1,rfl,λlb p H6 hb0 hb hp4 hpn s6=>⟨al nofun,λtd htd=>h1 _ _ ?_⟩⟩⟩⟩⟩;clear h1;have s7:=ae (o:=.tup [V.str (tx sg),V.ref lb,V.int 2,V.int 3,V.int 9]) htd;have etd:ax H6 td (.tup [V.str (tx sg),V.ref lb,V.int 2,V.int 3,V.int 9]) td=some (.tup [V.str (tx sg),V.ref lb,V.int 2,V.int 3,V.int 9]):=ac;have hb7:=s7 _ _ hb;have s07:=(s5.trans s6).trans s7;generalize ax H6 td (.tup [V.str (tx sg),V.ref lb,V.int 2,V.int 3,V.int 9])=H7 at s07 etd hb7 ⊢;clear s7 s6 s5 hb hb0 htd;walk_at "n";refine⟨a,ns,3,12,rfl,s07.seq ha,⋯,⋯,⋯,λlc cs H8 hlc0 hlc cs1 cs12 s8=>⟨lc,td,lb,cs,p,sg,2,3,9,rfl,hlc,cs1,⋯,s8 _ _ etd,s8 _ _ hb7,hp4,hpn,hsg,nofun,nofun,nofun,nofun,λtp lr ls ts rs zs H9 htp g hrl hz0 hzl' s9=>⟨tp,rfl,_,bh.of htp,rfl,_,_,rfl,_,_,rfl,rfl,h1 _ _ ?_⟩⟩⟩;clear h1;have h12:rs.length<=12:=by omega
  have s09:=(s07.trans s8).trans s9;have etd9:=s9 _ _ (s8 _ _ etd);have hb9:=s9 _ _ (s8 _ _ hb7);clear s9 s8 s07 htp hlc0 hlc etd hb7;walk_at "n";have hzl:0<zs.length:=Nat.pos_of_ne_zero λe=>hz0 (KP.mp e);have hlm:(zs.map λz=>V.ref z.a).length=zs.length:=J_ _;refine⟨a,ns,2,rfl,s09.seq ha,⋯,λc4=>⟨_,aS.of g.st,_,rfl,⋯,_,aS.of g.st,?_⟩⟩;obtain⟨z,hzm,hzat⟩:∃z∈zs,jl (zs.map λz=>V.ref z.a) (c4%((zs.map λz=>V.ref z.a).length:Nat))=some (V.ref z.a):=by
   obtain⟨v,hv,e⟩:=yf (xs:=zs.map λz=>V.ref z.a) (KY c4 (show((zs.map λz=>V.ref z.a).length:Int)≠0 by omega)) (KZ _ ⋯);obtain⟨z,hz,rfl⟩:=KQ.mp hv;exact⟨z,hz,e⟩
  have za:=g.at_ z hzm;have zg:=g.good z hzm;obtain⟨rr,cc,zsd⟩:=zg.sd;have yal:∀r∈rs,dD r:=λr hr=>(g.ro r hr).good;have zp:eF z.x.p rr cc:=zsd.pic yal;have rr6:rr<=6:=zp.r6;have cc6:cc<=6:=zp.c6;have zlow:((z.x.t.cnt:Nat):Int)<=z.x.c:=(zsd.low yal).2;have zcnt:=z.x.t.cnt1;have zdep:=z.x.t.dep_cnt;have zc9:z.x.c<=9:=zg.le;refine⟨_,hzat,h1 _ _ ?_⟩;clear h1 hzat;have hro:=g.ro;have gc:=iD yal;have hp0:p[0]?=some (p[0]'⋯):=J7 ⋯;have hst0:p[0]'⋯∈p:=Kf _;generalize p[0]'⋯=st at hp0 hst0;have at0:jl (aD p) 0=some (V.str (tx st)):=(show jl _ ((0:Nat):Int)=_ from bx (by unfold aD;rw[Ka,hp0];rfl));have hsl:=lD hsg;have hn0:=j8 (hpn _ hst0);have mk:hU sg st rs=none:=zI hsg hst0 hpn ⋯ ⋯ hro;have krs:tx z.x.nm∈(aY (tx st) rs).map (·.1):=by
   obtain⟨nn,q0,ps,_,hq0,hqn,_⟩:=zsd.node yal;have hqn:q0.2.n=z.x.nm:=hqn;rw[<- hqn];exact(qL _ _ _).mpr (.inr ⟨(tx q0.2.n,(bi q0.1 q0.2).map tx),by unfold FS;exact List.mem_map_of_mem (f:=λr:Nat×RV=>(tx r.2.n,(bi r.1 r.2).map tx)) (Kb hq0),.inl rfl⟩)
  have c61:CN rs (z.x.nm,rr,cc,z.x.c)<=2 ^ 61:=EG gc h12 rr6 cc6 zc9;have cok:so st rs 6:=⟨gc,λq hq=>(yal q hq).good.t0,λp a b c=>KO (EG gc h12 a b ⋯) nofun,nofun,⋯,by
   have:=mk;unfold hU at this
   split at this
   ·cases this
   ·split at this
    ·cases this
    ·omega⟩
  have dom:qR st rs 6 (z.x.nm,rr,cc,z.x.c):=⟨krs,zp.r0,zp.r6,zp.c0,zp.c6,by show -8<=z.x.c;omega,by show z.x.c<=16;omega⟩;have ok:=dom.row nofun;have hlen:=ce gc ok;have hmem:1<=CN rs (z.x.nm,rr,cc,z.x.c):=by
   rw[<- hlen];exact List.length_pos_of_mem (zsd.mem yal _ (Kv _) (by show z.x.c<=16;omega))
  walk_at "n";refine⟨_,bh.of etd9,_,rfl,_,bh.of etd9,_,rfl,_,rfl,_,aS.of hb9,_,at0,lr,sg,st,ts,rs,rfl,g.rows,yal,⋯,⋯,⋯,mk,λg0 d0 a0 H10 G0 s10=>h1 _ _ ?_⟩;clear h1;have ydK:=s10 _ _ g.st;have za10:=za.up s10;have s010:=s09.trans s10;obtain⟨zt,zv,zl,zn⟩:=za10;obtain⟨hl0,hc0⟩:=fB zp.rc zp.r0;walk_at "n";refine⟨_,bh.of zt,_,rfl,h1 _ _ ?_⟩;walk_at "nc";refine⟨_,bh.of zt,_,rfl,_,rfl,_,aS.of zl,h1 _ _ ?_⟩;clear h1;rw[ar,zp.rc.1];walk_at "n";refine⟨_,bh.of zt,_,rfl,_,rfl,_,aS.of zl,_,(show jl _ ((0:Nat):Int)=_ from bx (bb hl0)),_,rfl,by rw[au];exact al ⋯,h1 _ _ ?_⟩;clear h1;rw[au,hc0];walk_at "n";refine⟨_,bh.of zt,_,rfl,g0,d0,sg,st,a0,rs,6,(z.x.nm,rr,cc,z.x.c),rfl,G0,cok,.inl ⟨dom,λH12 s12=>h1 _ _ ?_⟩⟩;clear h1;have zt12:=s12 _ _ zt;have G0:=G0.up s12;have ydq:=s12 _ _ ydK;have s012:=s010.trans s12;walk_at "n";refine⟨_,rfl,_,rfl,?_⟩;rw[if_neg nofun,if_neg ⋯];refine h1 _ _ ?_;walk_at "nc";refine h1 _ _ ?_;clear h1;obtain⟨p3,hp3⟩:∃p3:TR,p3=(z.x.nm,rr,cc,z.x.c):=⟨_,rfl⟩;rw[<- hp3]at hmem hlen ok dom c61 zsd ⊢;have e61:(2:Nat) ^ 61=2305843009213693952:=by decide
  have h61:((CN rs p3:Nat):Int)<=2305843009213693952:=by omega
  refine am λN1 h1=>?_;refine sK λtb ub et eu=>?_;walk_at "wp";have cont:∀(fv:V) (H13:Hp),az H12 H13->(fv=.non\/∃l,fv=.ref l/\EK H13 l (RT rs p3))->N1 [some (V.ref a),some (V.ref td),some (V.ref lr),some (V.ref ls),some (V.ref z.a),some (V.ref g0),some (V.str (tx z.x.nm)),some (V.int (rr:Int)),some (V.int (cc:Int)),some (V.int (CN rs p3:Nat)),some fv,none,none,none,none] H13:=by
   intro fv H13 s13 hfv;refine h1 _ _ ?_;clear h1 et eu tb ub;walk_at "n";refine⟨a,ns,2,rfl,(s012.trans s13).seq ha,⋯,λc5=>?_⟩;obtain⟨zt13,G13,st13⟩:H13 z.a=some (.tup [z.v,.str (tx z.x.nm),.ref z.lp,.int z.x.c])/\dC R H13 CG d0 g0 sg st a0 rs/\H13 ls=some (.lst (zs.map λz=>V.ref z.a)):=⟨s13 _ _ zt12,G0.up s13,s13 _ _ ydq⟩;refine⟨_,aS.of st13,_,rfl,⋯,⋯,⋯,h1 _ _ ?_⟩;clear h1;have b0:0<=c5/((zs.map λz=>V.ref z.a).length:Nat)%((CN rs p3:Nat):Int):=KY _ ⋯;have b1:c5/((zs.map λz=>V.ref z.a).length:Nat)%((CN rs p3:Nat):Int)<((CN rs p3:Nat):Int):=KZ _ ⋯;generalize c5/((zs.map λz=>V.ref z.a).length:Nat)%((CN rs p3:Nat):Int)=be at b0 b1;walk_at "n";have hmin:(if((CN rs p3:Nat):Int)<be+6 then((CN rs p3:Nat):Int) else be+6)<=((CN rs p3:Nat):Int)/\be<=(if((CN rs p3:Nat):Int)<be+6 then((CN rs p3:Nat):Int) else be+6):=by
    by_cases h:((CN rs p3:Nat):Int)<be+6
    ·rw[if_pos h];omega
    ·rw[if_neg h];omega
   generalize(if((CN rs p3:Nat):Int)<be+6 then((CN rs p3:Nat):Int) else be+6)=hi at hmin ⊢;obtain⟨hi1,hi2⟩:=hmin;refine⟨⋯,⋯,⋯,⋯,?_⟩;refine eW (lo:=be) (n:=(hi-be).toNat) (λi σ H'=>az H13 H'/\∃y1 y2 y3,σ=[some (V.ref a),some (V.ref td),some (V.ref lr),some (V.ref ls),some (V.ref z.a),some (V.ref g0),some (V.str (tx z.x.nm)),some (V.int (rr:Int)),some (V.int (cc:Int)),some (V.int (CN rs p3:Nat)),some fv,some (V.int be),y1,y2,y3]) ⟨az.refl _,_,_,_,rfl⟩ ?_ ?_
   ·rintro i σ H14 hi' ⟨s14,y1,y2,y3,rfl⟩
    obtain⟨k,hk⟩:∃k:Nat,be+(i:Int)=(k:Int):=⟨(be+i).toNat,⋯⟩;have hk2:k<CN rs p3:=by omega
    obtain⟨t,ht⟩:∃t,(RT rs p3)[k]?=some t:=⟨_,J7 ⋯⟩;obtain⟨pc,tsd⟩:=yz yal 17 p3 t ok (by have:=ok.k16;push_cast;omega) (Kb ht);have tlow:((t.cnt:Nat):Int)<=p3.2.2.2:=(tsd.low yal).2;have p39:p3.2.2.2<=9:=by rw[hp3];exact zc9
    have tdep:=t.dep_cnt;rw[hk];walk_at "o";refine⟨_,bh.of (s14 _ _ zt13),_,rfl,g0,d0,sg,st,a0,rs,6,p3,(k:Int),by rw[hp3],G13.up s14,cok,.inl ⟨dom,λj t' hj ht' v H15 s15 hv=>h2 _ _ ?_,λh=>absurd h ⋯⟩⟩;clear h2;have hj:k=j:=by omega
    subst hj;rw[ht]at ht';cases ht';have s35:=s14.trans s15;refine am λN2 h2=>?_;have tail:N2 [some (V.ref a),some (V.ref td),some (V.ref lr),some (V.ref ls),some (V.ref z.a),some (V.ref g0),some (V.str (tx z.x.nm)),some (V.int (rr:Int)),some (V.int (cc:Int)),some (V.int (CN rs p3:Nat)),some fv,some (V.int be),some (V.int (k:Int)),some v,y3] H15:=by
     refine h2 _ _ ?_;clear h2;refine am λN3 h3=>?_;walk_at "wp";refine⟨g0,d0,sg,st,a0,rs,6,v,t,p3,pc,rfl,G13.up s35,cok,yal,hv,tsd,dom,λk' H16 hk' s16=>h3 _ _ ?_⟩;clear h3;have ek:=Eh yal ok ht hk';subst ek;walk_at "wp";refine⟨_,rfl,_,rfl,?_⟩;rw[if_neg nofun];exact s35.trans s16
    clear h2;walk_at "wp";rcases hfv with rfl | ⟨l,rfl,vs,hl,hT⟩
    ·rw[if_neg (λh=>h rfl)];exact tail
    ·rw[if_pos (λh=>by cases h)]
     have hvl:=hT.length;rw[J_]at hvl;have hv':vs[k]?=some (vs[k]'⋯):=J7 ⋯;obtain⟨d,hd,hd'⟩:=fX hT hv';rw[Ka,ht]at hd;cases hd;generalize vs[k]'⋯=v' at hv' hd';have e0:=yH t;have hd2:=hd'.up (ij.of s35) _;rw[t.d_eq]at e0 hd2 hv;have e0:Dt.deps (.int t.i::t.ps.map bD.d)+1=t.dep:=e0;refine⟨l,rfl,_,aS.of (s35 _ _ hl),v',bx hv',.inl ⟨_,⋯,.inr ⟨b5.rd _ hd2,b5.rd _ hv⟩,_,rfl,?_⟩⟩;rw[if_neg nofun];exact tail
   ·rintro σ H14 ⟨s14,y1,y2,y3,rfl⟩
    refine h1 _ _ ?_;walk_at "wp";exact q H14
  refine fq (λt1=>?_) (λt1=>?_)
  ·rw[et]
   walk_at "wp";refine⟨_,bh.of zt12,_,rfl,g0,d0,sg,st,a0,rs,6,p3,by rw[hp3],G0,cok,.inl ⟨dom,λ_ l H13 hl hT s13=>cont _ _ s13 (.inr ⟨l,rfl,hT⟩),λh=>absurd h ⋯⟩⟩
  ·rw[eu]
   walk_at "wp";exact cont _ _ (az.refl _) (.inl rfl)
end
theorem bd1{P:List Value->Prop}(h:∀a,P [a]):∀us:List Value,us.length=1->P us:=λus e=>match us,e with|[_],_=>h _
theorem bd2{P:List Value->Prop}(h:∀a b,P [a,b]):∀us:List Value,us.length=2->P us:=λus e=>match us,e with|[_,_],_=>h _ _
theorem bd3{P:List Value->Prop}(h:∀a b c,P [a,b,c]):∀us:List Value,us.length=3->P us:=λus e=>match us,e with|[_,_,_],_=>h _ _ _
theorem bd4{P:List Value->Prop}(h:∀a b c d,P [a,b,c,d]):∀us:List Value,us.length=4->P us:=λus e=>match us,e with|[_,_,_,_],_=>h _ _ _ _
theorem bd5{P:List Value->Prop}(h:∀a b c d e,P [a,b,c,d,e]):∀us:List Value,us.length=5->P us:=λus e=>match us,e with|[_,_,_,_,_],_=>h _ _ _ _ _
theorem bd6{P:List Value->Prop}(h:∀a b c d e f,P [a,b,c,d,e,f]):∀us:List Value,us.length=6->P us:=λus e=>match us,e with|[_,_,_,_,_,_],_=>h _ _ _ _ _ _
noncomputable def FK(K:W.Frag)(x:Str)(st:Stmt)(f:Addr):Prop:=W.nsIn K mainGlobals x=some (some (.ref f))/\∃oc od osl kV doc pm an cdv ct,K.lookup f=some ⟨oc,od,.func (W.fnOf x x (aT st) (aP st) (ai st) .none kV doc pm an cdv ct),osl⟩/\W.codeIn K cdv x=true/\W.keepIn K (.ref f)=true
theorem fk_mk{K:W.Frag}{x:Str}{st:Stmt}{f:Addr}{oc:Value}{od an:Lh}{osl:Array (Option Value)}{kV doc pm cdv ct:Value}(a:W.nsIn K mainGlobals x=some (some (.ref f)))(l:K.lookup f=some ⟨oc,od,.func (W.fnOf x x (aT st) (aP st) (ai st) .none kV doc pm an cdv ct),osl⟩)(c:W.codeIn K cdv x=true)(k:W.keepIn K (.ref f)=true):FK K x st f:=⟨a,oc,od,osl,kV,doc,pm,an,cdv,ct,l,c,k⟩
theorem FK.cal{K:W.Frag}{x:Str}{st:Stmt}{f:Addr}{h base:Heap}{mg:Lb}{P:Ld}{w:Lg}{CX:k8}{k:Nat}{ps:Le}{sp:Sp}(q:FK K x st f)(X:K.In h)(G:h.Ns mainGlobals mg)
  (ok:∀fd,cy K x x st f fd->mg x=some (.ref f)->W.keepIn K (.ref f)=true->cn K fd ps []->aQ P w K mg base CX k f fd ps sp)
  (hb:∀(kV doc pm:Value) (an:Lh) (cdv ct:Value) (us:K9),us.length=ps.length->bindArgs (W.fnOf x x (aT st) (aP st) (ai st) .none kV doc pm an cdv ct) ⟨us,[]⟩=pure (ps.zip us)):eR P w K mg base CX k x ps sp:=by
 obtain⟨a,oc,od,osl,kV,doc,pm,an,cdv,ct,l,c,kk⟩:=q;have F:=bC l c kk;have b:=F.binds hb;exact⟨_,_,ok _ F (W.mg_of X G a) kk b,W.mg_of X G a,kk,b⟩
theorem all_mk{l:W.OpenLaw}{w:Lg}{K:W.Frag}{h:Heap}{mg:Lb}{fa f1 f2 f3 f4 f5 f6 f7 f8 f9 f10 f11 f12 f13 f14 f15 f16 f17 f18 f19 f20 f21 f22 f23 f24 f25 f26 f27 f28 f29 f30 f31 f32 f33 f34 f35 f36 f37 f38:Addr}(X:K.In h)(G:h.Ns mainGlobals mg)(JJ:mg "law"=some (.ref fa))
  (a1:FK K "only_of" nF f1) (a2:FK K "is_name" nB f2) (a3:FK K "are_signs" ju f3) (a4:FK K "check_made_of" fK f4) (a5:FK K "numbers_by_name" eM f5) (a6:FK K "beside" pW f6) (a7:FK K "above" tH f7) (a8:FK K "mirror" qf f8) (a9:FK K "column_from_below" dA f9) (IV:FK K "quarter" ny f10) (J0:FK K "turned" qJ f11) (Jo:FK K "check_form" iQ f12) (Ja:FK K "lay" Db f13) (IU:FK K "laid" xG f14) (Ih:FK K "numbers_in" iG f15) (IL:FK K "cost_of" m4 f16) (HY:FK K "size_of" mQ f17) (HL:FK K "fewest" qp f18) (JO:FK K "paired_rows" gW f19) (JC:FK K "row_of" o8 f20) (JE:FK K "count_trees" gN f21) (HH:FK K "tree_at" mV f22) (HQ:FK K "number_of" jm f23) (JQ:FK K "trees_of" lz f24) (HX:FK K "_law_cell" qi f25) (Ix:FK K "_law_cells" nh f26) (JP:FK K "_law_whole" m_ f27) (Iw:FK K "_law_signs" mO f28) (IB:FK K "_law_names" m9 f29) (IZ:FK K "_law_rule" o6 f30) (I8:FK K "_law_grammar" j6 f31) (JX:FK K "_law_turned" lN f32) (JW:FK K "_law_joined" lK f33) (IE:FK K "_law_noted" mW f34) (IT:FK K "_law_put" uJ f35) (Ij:FK K "_law_step" qO f36) (IC:FK K "_law_grown" nE f37) (Ju:FK K "law" sj f38)
  {zfa zia yaa yac zda zOa yae yaT yao zza zea zsa zaa zla zba zoa zca zta zja zAa zpa zwa zka zya zma zBa zqa zga zva zFa zGa zra yab yaN yaP yaK yaS yaH yaG yaR yaO yag:Addr} {yb1 ydP ycM ycb ycI ydT ycY yb8:Tok} {ycp ybV ydj ycS yb9 ydJ ydg ydI ycH ydG zRe zSe zud zvd zbc zcc zIc zJc zwd zxd zag zbg zTe zUe zKc zLc zje zke zPb zQb zDe zEe zdc zec zVe zWe zMc zNc zUd zVd zEf zFf zGf zHf zOc zPc ycd ycE ycJ ydD ycW yb0 ydM yb6 yc4 yc7 yc0 ydB yce yc6 ydH ydf ydO:Lh} {zah zch yds ycu zEa yav ycL:ClassData} {zbh zdh ycj ydm zrg ybY ycm ydS zXe zyd zfc zQc zzd zcg zYe zRc zle zRb zFe zgc zZe zSc zWd zIf zJf zTc ydE ycy ycN ydh yb7 ycx ydu yb5 ycA:Array (Option Value)} {yb4 ycQ ydc ybW ybK yco ydA ydd ydN ycK ybH ycV zaf zbf zcf zdf zDb zef zAd zBd zCd zDd zjb zEd zhc zic zjc zkc zSa zlc zUc zVc zWc zXc zXa zYc zFd zGd zHd zId zkb zJd zdg zeg zfg zgg zXd zhg zff zgf zhf zif zEb zjf zZc zad zbd zcd zYa zdd zme zne zoe zpe zrb zqe zSb zTb zUb zVb zPa zWb zGe zHe zIe zJe zxb zKe zmc znc zoc zpc zTa zqc zkf zlf zmf znf zFb zof zed zfd zgd zhd zZa zid zYd zZd zae zbe zob zce zKf zLf zMf zNf zrc zOf zPf zQf zRf zSf zsc zTf zjd zkd zld zmd zab znd ydo ydv ydC yci ybT yc3 ydU yca ydt ydn ybS yc9 yde ycD ydk ycF ybC ycX yc8 yct ycl ycf ybG yc2 ycB ycG ycO ycg ybx ydV ycP yb2 yb3 ycz ybD ydR ycZ ydi ycw ycU ybs ycv ydL ydw ycr yck ybB ybX:Value}  (DG:W.nsIn K mainGlobals "NoRule"=some (some (.ref zfa))) (Da:K.lookup zfa=some ⟨.type "type",ycp,.cls zah,zbh⟩) (vh:W.excIn K zfa [.type "ValueError",.type "Exception",.type "BaseException",.type "object"] "ValueError.__new__"=true) (Ay:W.findIn K (.ref zfa) "__getattribute__"=some (some (.builtin "BaseException.__getattribute__"))) (zG:W.findIn K (.ref zfa) "__getattr__"=some none) (zP:W.mroIn K zfa (.type "BaseException")=some true) (zC:W.mroIn K zfa (.type "object")=some true) (An:W.findIn K (.ref zfa) "__class__"=some (some (.builtin "object.__class__"))) (zo:W.specialIn K (.builtin "object.__class__") "__get__"=some (some (.builtin "getset_descriptor.__get__"))) (Ai:W.takesIn K (.builtin "object.__class__")=some true) (Fv:W.nsIn K mainGlobals "NoFit"=some (some (.ref zia))) (DQ:K.lookup zia=some ⟨.type "type",ybV,.cls zch,zdh⟩) (yG:W.excIn K zia [.type "ValueError",.type "Exception",.type "BaseException",.type "object"] "ValueError.__new__"=true) (CP:W.findIn K (.ref zia) "__getattribute__"=some (some (.builtin "BaseException.__getattribute__"))) (Dy:W.findIn K (.ref zia) "__getattr__"=some none) (C4:W.mroIn K zia (.type "BaseException")=some true) (B2:W.mroIn K zia (.type "object")=some true) (Co:W.findIn K (.ref zia) "__class__"=some (some (.builtin "object.__class__"))) (D2:W.nsIn K mainGlobals "NoName"=some (some (.ref yaa))) (CQ:K.lookup yaa=some ⟨.type "type",ydj,.cls yds,ycj⟩) (v4:W.excIn K yaa [.type "ValueError",.type "Exception",.type "BaseException",.type "object"] "ValueError.__new__"=true) (zK:W.findIn K (.ref yaa) "__getattribute__"=some (some (.builtin "BaseException.__getattribute__"))) (zT:W.findIn K (.ref yaa) "__getattr__"=some none) (A3:W.mroIn K yaa (.type "BaseException")=some true) (Ae:W.mroIn K yaa (.type "object")=some true) (Aw:W.findIn K (.ref yaa) "__class__"=some (some (.builtin "object.__class__"))) (Al:W.nsIn K mainGlobals "NoNumber"=some (some (.ref yac))) (wP:K.lookup yac=some ⟨.type "type",ycS,.cls ycu,ydm⟩) (pe:W.excIn K yac [.type "ValueError",.type "Exception",.type "BaseException",.type "object"] "ValueError.__new__"=true) (v5:W.findIn K (.ref yac) "__getattribute__"=some (some (.builtin "BaseException.__getattribute__"))) (vF:W.findIn K (.ref yac) "__getattr__"=some none) (vo:W.mroIn K yac (.type "BaseException")=some true) (vi:W.mroIn K yac (.type "object")=some true) (vj:W.findIn K (.ref yac) "__class__"=some (some (.builtin "object.__class__"))) (yi:W.nsIn K mainGlobals "NoGrammar"=some (some (.ref zda))) (n8:K.lookup zda=some ⟨.type "type",yb9,.cls zEa,zrg⟩) (tL:W.excOut K zda [.type "ValueError",.type "Exception",.type "BaseException",.type "object"] "ValueError.__new__"=true) (uh:W.findIn K (.ref zda) "__getattribute__"=some (some (.builtin "BaseException.__getattribute__"))) (ut:W.findIn K (.ref zda) "__getattr__"=some none) (ue:W.mroIn K zda (.type "BaseException")=some true) (sZ:W.mroIn K zda (.type "object")=some true) (uE:W.findIn K (.ref zda) "__class__"=some (some (.builtin "object.__class__"))) (uK:W.findIn K (.ref zda) "__init__"=some (some (.ref zOa))) (uM:W.typeIn K (.ref zOa)=some (.type "function")) (uG:K.lookup zOa=some ⟨yb4,ydJ,.func (W.fnOf "__init__" "NoGrammar.__init__" (aT ka) (aP ka) (ai ka) .none ycQ ydc ybW ydg ybK yco),ybY⟩) (uL:W.codeIn K ybK "NoGrammar.__init__"=true) (uU:W.keepIn K (.ref zOa)=true) (tJ:W.findIn K (.ref zda) "__setattr__"=some (some (.builtin "object.__setattr__"))) (uz:W.strip zEa.mro=[.type "ValueError",.type "Exception",.type "BaseException",.type "object"]) (lX:zEa.hasDict=true) (tR:zEa.mro.contains (.type "object")=true) (tz:zEa.mro.isEmpty=false) (uW:W.findIn K (.ref zda) "why"=some none) (Es:W.nsIn K mainGlobals "NoTree"=some (some (.ref yae))) (v9:K.lookup yae=some ⟨.type "type",ydI,.cls yav,ycm⟩) (zy:W.excOut K yae [.type "ValueError",.type "Exception",.type "BaseException",.type "object"] "ValueError.__new__"=true) (zX:W.findIn K (.ref yae) "__getattribute__"=some (some (.builtin "BaseException.__getattribute__"))) (Az:W.findIn K (.ref yae) "__getattr__"=some none) (zO:W.mroIn K yae (.type "BaseException")=some true) (zb:W.mroIn K yae (.type "object")=some true) (z_:W.findIn K (.ref yae) "__class__"=some (some (.builtin "object.__class__"))) (AW:W.findIn K (.ref yae) "__init__"=some (some (.ref yaT))) (zi:W.typeIn K (.ref yaT)=some (.type "function")) (zh:K.lookup yaT=some ⟨ydA,ycH,.func (W.fnOf "__init__" "NoTree.__init__" (aT kg) (aP kg) (ai kg) .none ydd ydN ycK ydG ybH ycV),ydS⟩) (AQ:W.codeIn K ybH "NoTree.__init__"=true) (Ah:W.keepIn K (.ref yaT)=true) (AV:W.findIn K (.ref yae) "__setattr__"=some (some (.builtin "object.__setattr__"))) (As:W.strip yav.mro=[.type "ValueError",.type "Exception",.type "BaseException",.type "object"]) (sI:yav.hasDict=true) (y7:yav.mro.contains (.type "object")=true) (AL:yav.mro.isEmpty=false) (zz:W.findIn K (.ref yae) "why"=some none) (Aj:W.nsIn K mainGlobals "CAPITALS"=some (some (.str "ABCDEFGHIJKLMNOPQRSTUVWXYZ" yb1))) (DK:W.nsIn K mainGlobals "SMALLS"=some (some (.str "abcdefghijklmnopqrstuvwxyz" ydP))) (rn:W.nsIn K mainGlobals "LONGEST_NAME"=some (some (.int 4 ycM))) (Gm:W.nsIn K mainGlobals "Rule"=some (some (.ref yao))) (E2:W.specialIn K (.ref yao) "__getattribute__"=some (some (.builtin "type.__getattribute__"))) (E7:W.readsIn K yao (.type "type")=true) (oy:W.findCls K (.ref yao) (.type "type") "__init__"=some (.val (.ref zza))) (oq:K.lookup zza=some ⟨zaf,zRe,.func (W.fnOf "__init__" "Rule.__init__" (aT dP) (aP dP) (ai dP) .none zbf zcf zdf zSe zDb zef),zXe⟩) (oN:W.codeIn K zDb "Rule.__init__"=true) (Hw:W.keepIn K (.ref zza)=true) (Bl:W.isFn K (.ref zza)=true) (zS:W.nsIn K mainGlobals "CellRule"=some (some (.ref zea))) (HZ:W.plainGet K zea Str.empty=true) (JK:W.hasDictIn K zea=true) (IG:W.plainOver K zea=true) (JM:W.findIn K (.ref zea) "__setattr__"=some (some (.builtin "object.__setattr__"))) (Iq:W.findIn K (.ref zea) "__class__"=some (some (.builtin "object.__class__"))) (Jy:W.mroIn K zea (.type "object")=some true) (Ik:W.findIn K (.ref zea) "name"=some none) (JT:W.findIn K (.ref zea) "cost"=some none) (HV:W.findIn K (.ref zea) "part_names"=some none) (HN:W.findIn K (.ref zea) "sign"=some none) (xw:W.makesIn K zea=true) (yh:W.findIn K (.ref zea) "__init__"=some (some (.ref zsa))) (ky:K.lookup zsa=some ⟨zAd,zud,.func (W.fnOf "__init__" "CellRule.__init__" (aT dO) (aP dO) (ai dO) .none zBd zCd zDd zvd zjb zEd),zyd⟩) (kt:W.codeIn K zjb "CellRule.__init__"=true) (Ii:W.keepIn K (.ref zsa)=true) (kH:W.isFn K (.ref zsa)=true) (x5:W.keepIn K (.ref zea)=true) (HR:W.kitOne K (.ref zea) (.ref yao)=some true) (HB:W.kitOne K (.ref zea) (.ref zea)=some true) (wl:W.nsIn K mainGlobals "BesideRule"=some (some (.ref zaa))) (JV:W.plainGet K zaa Str.empty=true) (Io:W.hasDictIn K zaa=true) (Jh:W.plainOver K zaa=true) (HU:W.findIn K (.ref zaa) "__setattr__"=some (some (.builtin "object.__setattr__"))) (JA:W.findIn K (.ref zaa) "__class__"=some (some (.builtin "object.__class__"))) (IH:W.mroIn K zaa (.type "object")=some true) (Jv:W.findIn K (.ref zaa) "name"=some none) (Iu:W.findIn K (.ref zaa) "cost"=some none) (Il:W.findIn K (.ref zaa) "part_names"=some none) (JL:W.findIn K (.ref zaa) "one"=some none) (Jm:W.findIn K (.ref zaa) "other"=some none) (uZ:W.makesIn K zaa=true) (sQ:W.findIn K (.ref zaa) "__init__"=some (some (.ref zla))) (jb:K.lookup zla=some ⟨zhc,zbc,.func (W.fnOf "__init__" "BesideRule.__init__" (aT cT) (aP cT) (ai cT) .none zic zjc zkc zcc zSa zlc),zfc⟩) (jf:W.codeIn K zSa "BesideRule.__init__"=true) (Jn:W.keepIn K (.ref zla)=true) (jj:W.isFn K (.ref zla)=true) (uw:W.keepIn K (.ref zaa)=true) (IA:W.kitOne K (.ref zaa) (.ref yao)=some true) (HE:W.kitOne K (.ref zaa) (.ref zaa)=some true) (xO:W.nsIn K mainGlobals "AboveRule"=some (some (.ref zba))) (IY:W.plainGet K zba Str.empty=true) (JZ:W.hasDictIn K zba=true) (IW:W.plainOver K zba=true) (JS:W.findIn K (.ref zba) "__setattr__"=some (some (.builtin "object.__setattr__"))) (IM:W.findIn K (.ref zba) "__class__"=some (some (.builtin "object.__class__"))) (IQ:W.mroIn K zba (.type "object")=some true) (Ic:W.findIn K (.ref zba) "name"=some none) (Jl:W.findIn K (.ref zba) "cost"=some none) (H_:W.findIn K (.ref zba) "part_names"=some none) (Jk:W.findIn K (.ref zba) "one"=some none) (Jb:W.findIn K (.ref zba) "other"=some none) (wt:W.makesIn K zba=true) (vC:W.findIn K (.ref zba) "__init__"=some (some (.ref zoa))) (jG:K.lookup zoa=some ⟨zUc,zIc,.func (W.fnOf "__init__" "AboveRule.__init__" (aT dy) (aP dy) (ai dy) .none zVc zWc zXc zJc zXa zYc),zQc⟩) (jL:W.codeIn K zXa "AboveRule.__init__"=true) (JR:W.keepIn K (.ref zoa)=true) (jw:W.isFn K (.ref zoa)=true) (vX:W.keepIn K (.ref zba)=true) (J3:W.kitOne K (.ref zba) (.ref yao)=some true) (Hz:W.kitOne K (.ref zba) (.ref zba)=some true) (Bk:W.nsIn K mainGlobals "TurnRule"=some (some (.ref zca))) (HM:W.plainGet K zca Str.empty=true) (Jj:W.hasDictIn K zca=true) (Jt:W.plainOver K zca=true) (Jx:W.findIn K (.ref zca) "__setattr__"=some (some (.builtin "object.__setattr__"))) (Ia:W.findIn K (.ref zca) "__class__"=some (some (.builtin "object.__class__"))) (Jw:W.mroIn K zca (.type "object")=some true) (HS:W.findIn K (.ref zca) "name"=some none) (Iv:W.findIn K (.ref zca) "cost"=some none) (Jd:W.findIn K (.ref zca) "part_names"=some none) (JF:W.findIn K (.ref zca) "part"=some none) (JN:W.findIn K (.ref zca) "turning"=some none) (yb:W.makesIn K zca=true) (xz:W.findIn K (.ref zca) "__init__"=some (some (.ref zta))) (kY:K.lookup zta=some ⟨zFd,zwd,.func (W.fnOf "__init__" "TurnRule.__init__" (aT dJ) (aP dJ) (ai dJ) .none zGd zHd zId zxd zkb zJd),zzd⟩) (kK:W.codeIn K zkb "TurnRule.__init__"=true) (Jr:W.keepIn K (.ref zta)=true) (kJ:W.isFn K (.ref zta)=true) (wC:W.keepIn K (.ref zca)=true) (II:W.kitOne K (.ref zca) (.ref yao)=some true) (Hm:W.kitOne K (.ref zca) (.ref zca)=some true) (wm:W.nsIn K mainGlobals "MOST_SIGNS"=some (some (.int 4 ycb))) (vN:W.nsIn K mainGlobals "MOST_RULES"=some (some (.int 24 ycI))) (u9:W.nsIn K mainGlobals "MOST_NAMES"=some (some (.int 8 ydT))) (Gn:W.nsIn K mainGlobals "MOST"=some (some (.int 6 ycY))) (JI:W.kitOne K (.ref zea) (.ref zaa)=some false) (J2:W.kitOne K (.ref zea) (.ref zba)=some false) (Ji:W.kitOne K (.ref zea) (.ref zca)=some false) (Je:W.kitOne K (.ref zaa) (.ref zea)=some false) (Ib:W.kitOne K (.ref zaa) (.ref zba)=some false) (ID:W.kitOne K (.ref zaa) (.ref zca)=some false) (I_:W.kitOne K (.ref zba) (.ref zea)=some false) (Ie:W.kitOne K (.ref zba) (.ref zaa)=some false) (Jp:W.kitOne K (.ref zba) (.ref zca)=some false) (IS:W.kitOne K (.ref zca) (.ref zea)=some false) (I9:W.kitOne K (.ref zca) (.ref zaa)=some false) (HJ:W.kitOne K (.ref zca) (.ref zba)=some false) (mY:W.findIn K (.ref zea) "parts"=some (some (.ref zja))) (ua:K.lookup zja=some ⟨zdg,zag,.func (W.fnOf "parts" "Rule.parts" (aT dh) (aP dh) (ai dh) .none zeg zfg zgg zbg zXd zhg),zcg⟩) (sO:W.codeIn K zXd "Rule.parts"=true) (GA:W.keepIn K (.ref zja)=true) (fW:W.isFn K (.ref zja)=true) (oM:W.findIn K (.ref zea) "made"=some (some (.ref zAa))) (ou:K.lookup zAa=some ⟨zff,zTe,.func (W.fnOf "made" "CellRule.made" (aT dL) (aP dL) (ai dL) .none zgf zhf zif zUe zEb zjf),zYe⟩) (on:W.codeIn K zEb "CellRule.made"=true) (Hs:W.keepIn K (.ref zAa)=true) (oE:W.isFn K (.ref zAa)=true) (jD:W.findIn K (.ref zea) "part_rows"=some (some (.ref zpa))) (jk:K.lookup zpa=some ⟨zZc,zKc,.func (W.fnOf "part_rows" "CellRule.part_rows" (aT dM) (aP dM) (ai dM) .none zad zbd zcd zLc zYa zdd),zRc⟩) (jE:W.codeIn K zYa "CellRule.part_rows"=true) (Hl:W.keepIn K (.ref zpa)=true) (j0:W.isFn K (.ref zpa)=true) (lV:W.findIn K (.ref zaa) "parts"=some (some (.ref zja))) (mw:W.findIn K (.ref zaa) "made"=some (some (.ref zwa))) (mn:K.lookup zwa=some ⟨zme,zje,.func (W.fnOf "made" "BesideRule.made" (aT cV) (aP cV) (ai cV) .none zne zoe zpe zke zrb zqe),zle⟩) (my:W.codeIn K zrb "BesideRule.made"=true) (Hu:W.keepIn K (.ref zwa)=true) (mK:W.isFn K (.ref zwa)=true) (iz:W.findIn K (.ref zaa) "part_rows"=some (some (.ref zka))) (iL:K.lookup zka=some ⟨zSb,zPb,.func (W.fnOf "part_rows" "BesideRule.part_rows" (aT cU) (aP cU) (ai cU) .none zTb zUb zVb zQb zPa zWb),zRb⟩) (iw:W.codeIn K zPa "BesideRule.part_rows"=true) (Hk:W.keepIn K (.ref zka)=true) (iI:W.isFn K (.ref zka)=true) (ml:W.findIn K (.ref zba) "parts"=some (some (.ref zja))) (nr:W.findIn K (.ref zba) "made"=some (some (.ref zya))) (mT:K.lookup zya=some ⟨zGe,zDe,.func (W.fnOf "made" "AboveRule.made" (aT dw) (aP dw) (ai dw) .none zHe zIe zJe zEe zxb zKe),zFe⟩) (nL:W.codeIn K zxb "AboveRule.made"=true) (HG:W.keepIn K (.ref zya)=true) (mX:W.isFn K (.ref zya)=true) (jh:W.findIn K (.ref zba) "part_rows"=some (some (.ref zma))) (je:K.lookup zma=some ⟨zmc,zdc,.func (W.fnOf "part_rows" "AboveRule.part_rows" (aT df) (aP df) (ai df) .none znc zoc zpc zec zTa zqc),zgc⟩) (jg:W.codeIn K zTa "AboveRule.part_rows"=true) (HC:W.keepIn K (.ref zma)=true) (jd:W.isFn K (.ref zma)=true) (m5:W.findIn K (.ref zca) "parts"=some (some (.ref zja))) (oH:W.findIn K (.ref zca) "made"=some (some (.ref zBa))) (oF:K.lookup zBa=some ⟨zkf,zVe,.func (W.fnOf "made" "TurnRule.made" (aT dX) (aP dX) (ai dX) .none zlf zmf znf zWe zFb zof),zZe⟩) (oz:W.codeIn K zFb "TurnRule.made"=true) (HA:W.keepIn K (.ref zBa)=true) (oJ:W.isFn K (.ref zBa)=true) (jn:W.findIn K (.ref zca) "part_rows"=some (some (.ref zqa))) (j5:K.lookup zqa=some ⟨zed,zMc,.func (W.fnOf "part_rows" "TurnRule.part_rows" (aT dZ) (aP dZ) (ai dZ) .none zfd zgd zhd zNc zZa zid),zSc⟩) (jB:W.codeIn K zZa "TurnRule.part_rows"=true) (Hi:W.keepIn K (.ref zqa)=true) (jy:W.isFn K (.ref zqa)=true) (Ca:W.nsIn K mainGlobals "Grammar"=some (some (.ref zga))) (IX:W.plainGet K zga Str.empty=true) (Ir:W.hasDictIn K zga=true) (Iy:W.plainOver K zga=true) (Ig:W.findIn K (.ref zga) "__setattr__"=some (some (.builtin "object.__setattr__"))) (HK:W.findIn K (.ref zga) "__class__"=some (some (.builtin "object.__class__"))) (JH:W.mroIn K zga (.type "object")=some true) (JD:W.findIn K (.ref zga) "signs"=some none) (Iz:W.findIn K (.ref zga) "start"=some none) (IN:W.findIn K (.ref zga) "kept"=some none) (HP:W.findIn K (.ref zga) "numbers"=some none) (Bb:W.makesIn K zga=true) (y_:W.findIn K (.ref zga) "__init__"=some (some (.ref zva))) (lS:K.lookup zva=some ⟨zYd,zUd,.func (W.fnOf "__init__" "Grammar.__init__" (aT dS) (aP dS) (ai dS) .none zZd zae zbe zVd zob zce),zWd⟩) (lQ:W.codeIn K zob "Grammar.__init__"=true) (JU:W.keepIn K (.ref zva)=true) (lE:W.isFn K (.ref zva)=true) (AA:W.keepIn K (.ref zga)=true) (qb:W.findIn K (.ref zga) "rule"=some (some (.ref zFa))) (pQ:K.lookup zFa=some ⟨zKf,zEf,.func (W.fnOf "rule" "Grammar.rule" (aT dU) (aP dU) (ai dU) .none zLf zMf zNf zFf zrc zOf),zIf⟩) (qH:W.codeIn K zrc "Grammar.rule"=true) (Ho:W.keepIn K (.ref zFa)=true) (pf:W.isFn K (.ref zFa)=true) (qx:W.findIn K (.ref zga) "many"=some (some (.ref zGa))) (pB:K.lookup zGa=some ⟨zPf,zGf,.func (W.fnOf "many" "Grammar.many" (aT dQ) (aP dQ) (ai dQ) .none zQf zRf zSf zHf zsc zTf),zJf⟩) (pK:W.codeIn K zsc "Grammar.many"=true) (HF:W.keepIn K (.ref zGa)=true) (qI:W.isFn K (.ref zGa)=true) (jR:W.findIn K (.ref zga) "numbers_of"=some (some (.ref zra))) (jC:K.lookup zra=some ⟨zjd,zOc,.func (W.fnOf "numbers_of" "Grammar.numbers_of" (aT bT) (aP bT) (ai bT) .none zkd zld zmd zPc zab znd),zTc⟩) (jU:W.codeIn K zab "Grammar.numbers_of"=true) (Hv:W.keepIn K (.ref zra)=true) (jx:W.isFn K (.ref zra)=true) (A1:W.nsIn K mainGlobals "TreeRows"=some (some (.ref yab))) (xB:W.plainGet K yab Str.empty=true) (wY:W.hasDictIn K yab=true) (yd:W.plainOver K yab=true) (yc:W.findIn K (.ref yab) "__setattr__"=some (some (.builtin "object.__setattr__"))) (xZ:W.findIn K (.ref yab) "__class__"=some (some (.builtin "object.__class__"))) (xW:W.mroIn K yab (.type "object")=some true) (lL:W.findIn K (.ref yab) "grammar"=some none) (nq:W.findIn K (.ref yab) "steps"=some none) (mD:W.findIn K (.ref yab) "totals"=some none) (xu:W.makesIn K yab=true) (xP:W.findIn K (.ref yab) "__init__"=some (some (.ref yaN))) (kC:K.lookup yaN=some ⟨ydo,ycd,.func (W.fnOf "__init__" "TreeRows.__init__" (aT gb) (aP gb) (ai gb) .none ydv ydC yci ycE ybT yc3),ydE⟩) (kE:W.codeIn K ybT "TreeRows.__init__"=true) (kF:W.keepIn K (.ref yaN)=true) (kR:W.isFn K (.ref yaN)=true) (xo:W.keepIn K (.ref yab)=true) (lw:W.findIn K (.ref yab) "many_in"=some (some (.ref yaP))) (lG:K.lookup yaP=some ⟨ydU,ycJ,.func (W.fnOf "many_in" "TreeRows.many_in" (aT b7) (aP b7) (ai b7) .none yca ydt ydn ydD ybS yc9),ycy⟩) (lx:W.codeIn K ybS "TreeRows.many_in"=true) (gs:W.keepIn K (.ref yaP)=true) (lC:W.isFn K (.ref yaP)=true) (kA:W.findIn K (.ref yab) "steps_of"=some (some (.ref yaK))) (kO:K.lookup yaK=some ⟨yde,ycW,.func (W.fnOf "steps_of" "TreeRows.steps_of" (aT b_) (aP b_) (ai b_) .none ycD ydk ycF yb0 ybC ycX),ycN⟩) (kW:W.codeIn K ybC "TreeRows.steps_of"=true) (fL:W.keepIn K (.ref yaK)=true) (kU:W.isFn K (.ref yaK)=true) (kG:W.findIn K (.ref yab) "reckoned"=some (some (.ref yaS))) (kX:K.lookup yaS=some ⟨yc8,ydM,.func (W.fnOf "reckoned" "TreeRows.reckoned" (aT b9) (aP b9) (ai b9) .none yct ycl ycf yb6 ybG yc2),ydh⟩) (kD:W.codeIn K ybG "TreeRows.reckoned"=true) (fN:W.keepIn K (.ref yaS)=true) (kP:W.isFn K (.ref yaS)=true) (gS:W.findIn K (.ref yab) "many_together"=some (some (.ref yaH))) (gR:K.lookup yaH=some ⟨ycB,yc4,.func (W.fnOf "many_together" "TreeRows.many_together" (aT bj) (aP bj) (ai bj) .none ycG ycO ycg yc7 ybx ydV),yb7⟩) (gU:W.codeIn K ybx "TreeRows.many_together"=true) (dB:W.keepIn K (.ref yaH)=true) (gX:W.isFn K (.ref yaH)=true) (lO:W.findIn K (.ref yab) "tree_in"=some (some (.ref yaG))) (lB:K.lookup yaG=some ⟨ycP,yc0,.func (W.fnOf "tree_in" "TreeRows.tree_in" (aT cu) (aP cu) (ai cu) .none yb2 yb3 ycz ydB ybD ydR),ycx⟩) (lA:W.codeIn K ybD "TreeRows.tree_in"=true) (gn:W.keepIn K (.ref yaG)=true) (lT:W.isFn K (.ref yaG)=true) (kM:W.findIn K (.ref yab) "trees_in"=some (some (.ref yaR))) (ku:K.lookup yaR=some ⟨ycZ,yce,.func (W.fnOf "trees_in" "TreeRows.trees_in" (aT cA) (aP cA) (ai cA) .none ydi ycw ycU yc6 ybs ycv),ydu⟩) (kI:W.codeIn K ybs "TreeRows.trees_in"=true) (fM:W.keepIn K (.ref yaR)=true) (kS:W.isFn K (.ref yaR)=true) (jN:W.findIn K (.ref yab) "number_in"=some (some (.ref yaO))) (jt:K.lookup yaO=some ⟨ydL,ydH,.func (W.fnOf "number_in" "TreeRows.number_in" (aT bO) (aP bO) (ai bO) .none ydw ycr yck ydf ybB ybX),yb5⟩) (jJ:W.codeIn K ybB "TreeRows.number_in"=true) (fC:W.keepIn K (.ref yaO)=true) (jF:W.isFn K (.ref yaO)=true) (BV:W.nsIn K mainGlobals "TooMany"=some (some (.ref yag))) (zA:K.lookup yag=some ⟨.type "type",ydO,.cls ycL,ycA⟩) (rZ:W.excIn K yag [.type "ValueError",.type "Exception",.type "BaseException",.type "object"] "ValueError.__new__"=true) (xq:W.findIn K (.ref yag) "__getattribute__"=some (some (.builtin "BaseException.__getattribute__"))) (xK:W.findIn K (.ref yag) "__getattr__"=some none) (ya:W.mroIn K yag (.type "BaseException")=some true) (wI:W.mroIn K yag (.type "object")=some true) (x6:W.findIn K (.ref yag) "__class__"=some (some (.builtin "object.__class__"))) (vG:W.nsIn K mainGlobals "MOST_TREES"=some (some (.int 300 yb8)))
  (z0:W.nsIn K mainGlobals "len"=some none) (z1:W.nsIn K mainGlobals "range"=some none) (z2:W.nsIn K mainGlobals "list"=some none) (z3:W.nsIn K mainGlobals "tuple"=some none) (z4:W.nsIn K mainGlobals "isinstance"=some none) (z5:W.nsIn K mainGlobals "int"=some none) (z6:W.nsIn K mainGlobals "bool"=some none) (z7:W.nsIn K mainGlobals "str"=some none) (z8:W.nsIn K mainGlobals "reversed"=some none) (z9:W.nsIn K mainGlobals "all"=some none) (I0:W.nsIn K mainGlobals "enumerate"=some none) (Jc:W.nsIn K mainGlobals "zip"=some none) (Jq:W.nsIn K mainGlobals "sorted"=some none) (Is:W.nsIn K mainGlobals "set"=some none) (IR:W.nsIn K mainGlobals "dict"=some none) (IP:W.nsIn K mainGlobals "min"=some none) (Jg:W.nsIn K mainGlobals "max"=some none) (Jf:W.nsIn K mainGlobals "sum"=some none) (HI:W.nsIn K mainGlobals "ValueError"=some none) :
  ∃fd:FuncData,(∀(s:K8) (v:Value),BindsTo s fd ⟨[v],[]⟩ [("_law_script",v)])/\∀base:Heap,K.In base->base.Ns mainGlobals mg->aQ l.prog w K mg base bG 109 fa fd ["_law_script"] (tO K):=by
 obtain⟨an,oc,od,osl,kV,doc,pm,ann,cdv,ct,hl,hc,hk⟩:=Ju;have e:=JJ.symm.trans (W.mg_of X G an);cases e;have FL:=bC hl hc hk;have nb:NB mg:=⟨W.mg_none_of X G z0,W.mg_none_of X G z1,W.mg_none_of X G z2,W.mg_none_of X G z3,W.mg_none_of X G z4,W.mg_none_of X G z5,W.mg_none_of X G z6,W.mg_none_of X G z7,W.mg_none_of X G z8,W.mg_none_of X G z9,W.mg_none_of X G I0,W.mg_none_of X G Jc,W.mg_none_of X G Jq,W.mg_none_of X G Is,W.mg_none_of X G IR,W.mg_none_of X G IP,W.mg_none_of X G Jg,W.mg_none_of X G Jf,W.mg_none_of X G HI⟩;refine⟨W.fnOf "law" "law" (aT sj) (aP sj) (ai sj) .none kV doc pm ann cdv ct,λs v=>.of_eq rfl,λbase _ _=>?_⟩;have zCa:=W.mg_of X G DG;have xc_NoRule:uv K zfa [.type "ValueError",.type "Exception",.type "BaseException",.type "object"] "ValueError.__new__":=⟨vh⟩;have zxa:XR K zfa:=⟨_,_,_,_,_,_,_,_,⟨vh⟩,PySem.F.excBase_ValueError,rfl,PySem.F.excBase_ValueError⟩;have xt_NoRule:W.XTy K zfa:=⟨Ay,zG,zP,zC,An,zo,Ai,_,_,_,Da⟩;have zvb:=W.mg_of X G Fv;have xc_NoFit:uv K zia [.type "ValueError",.type "Exception",.type "BaseException",.type "object"] "ValueError.__new__":=⟨yG⟩;have znb:XR K zia:=⟨_,_,_,_,_,_,_,_,⟨yG⟩,PySem.F.excBase_ValueError,rfl,PySem.F.excBase_ValueError⟩;have xt_NoFit:W.XTy K zia:=⟨CP,Dy,C4,B2,Co,zo,Ai,_,_,_,DQ⟩;have ybp:=W.mg_of X G D2;have xc_NoName:uv K yaa [.type "ValueError",.type "Exception",.type "BaseException",.type "object"] "ValueError.__new__":=⟨v4⟩;have ybi:XR K yaa:=⟨_,_,_,_,_,_,_,_,⟨v4⟩,PySem.F.excBase_ValueError,rfl,PySem.F.excBase_ValueError⟩;have xt_NoName:W.XTy K yaa:=⟨zK,zT,A3,Ae,Aw,zo,Ai,_,_,_,CQ⟩;have yaC:=W.mg_of X G Al;have xc_NoNumber:uv K yac [.type "ValueError",.type "Exception",.type "BaseException",.type "object"] "ValueError.__new__":=⟨pe⟩;have yaE:XR K yac:=⟨_,_,_,_,_,_,_,_,⟨pe⟩,PySem.F.excBase_ValueError,rfl,PySem.F.excBase_ValueError⟩;have xt_NoNumber:W.XTy K yac:=⟨v5,vF,vo,vi,vj,zo,Ai,_,_,_,wP⟩;have zua:=W.mg_of X G yi;have zog:Ag K zda [.type "ValueError",.type "Exception",.type "BaseException",.type "object"] "ValueError.__new__":=⟨tL⟩;have xt_NoGrammar:W.XTy K zda:=⟨uh,ut,ue,sZ,uE,zo,Ai,_,_,_,n8⟩;have ybP:W.clsIn K zda=some zEa:=by unfold W.clsIn;rw[n8]
 have xh_NoGrammar:W.hasDictIn K zda=true:=by unfold W.hasDictIn;rw[ybP];exact lX
 have ybJ:=bC (st:=ka) uG uL uU;have ydx:W.XSt K zda "why":=⟨tJ,⟨zEa,ybP,uz,lX,tR,tz⟩,uW⟩;have yda:=ybJ.binds (ps:=["self","why"]) λ_ _ _ _ _ _=>bd2 λ_ _=>rfl
 have zna:XI l.prog w K mg base 1 zda "why":=⟨_,_,_,_,_,_,_,_,zOa,_,_,zog,PySem.F.excBase_ValueError,rfl,PySem.F.excBase_ValueError,uK,uM,Di ybJ ydx,yda⟩;have yaA:=W.mg_of X G Es;have ydr:Ag K yae [.type "ValueError",.type "Exception",.type "BaseException",.type "object"] "ValueError.__new__":=⟨zy⟩;have xt_NoTree:W.XTy K yae:=⟨zX,Az,zO,zb,z_,zo,Ai,_,_,_,v9⟩;have ybR:W.clsIn K yae=some yav:=by unfold W.clsIn;rw[v9]
 have xh_NoTree:W.hasDictIn K yae=true:=by unfold W.hasDictIn;rw[ybR];exact sI
 have ybQ:=bC (st:=kg) zh AQ Ah;have ydz:W.XSt K yae "why":=⟨AV,⟨yav,ybR,As,sI,y7,AL⟩,zz⟩;have ydy:=ybQ.binds (ps:=["self","why"]) λ_ _ _ _ _ _=>bd2 λ_ _=>rfl
 have yaF:XI l.prog w K mg base 1 yae "why":=⟨_,_,_,_,_,_,_,_,yaT,_,_,ydr,PySem.F.excBase_ValueError,rfl,PySem.F.excBase_ValueError,AW,zi,Cr ybQ ydz,ydy⟩;have ybo:=W.mg_of X G Aj;have yaz:=W.mg_of X G DK;have ya4:=W.mg_of X G rn;have ycq:=W.mg_of X G Gm;have zJb:=bC (st:=dP) oq oN Hw;have zzf:=zJb.binds (ps:=["self","name","cost","part_names"]) λ_ _ _ _ _ _=>bd4 λ_ _ _ _=>rfl
 have ybU:Dq K yao "__init__" zza:=⟨E2,E7,oy,Hw⟩;have zub:=W.mg_of X G zS;have zJa:fD K zea:=⟨⟨HZ,JK,IG,JM⟩,Iq,zo,Ai,Jy⟩;have zlb:=bC (st:=dO) ky kt Ii;have zMd:=zlb.binds (ps:=["self","name","cost","sign"]) λ_ _ _ _ _ _=>bd4 λ_ _ _ _=>rfl
 have zzg:Mk K zea zsa:=⟨xw,yh,kH,x5⟩;have zpg:=W.mg_of X G wl;have zIa:fD K zaa:=⟨⟨JV,Io,Jh,HU⟩,JA,zo,Ai,IH⟩;have zVa:=bC (st:=cT) jb jf Jn;have zyc:=zVa.binds (ps:=["self","name","cost","one","other"]) λ_ _ _ _ _ _=>bd5 λ_ _ _ _ _=>rfl
 have zZf:Mk K zaa zla:=⟨uZ,sQ,jj,uw⟩;have zAg:=W.mg_of X G xO;have zMa:fD K zba:=⟨⟨IY,JZ,IW,JS⟩,IM,zo,Ai,IQ⟩;have zeb:=bC (st:=dy) jG jL JR;have zpd:=zeb.binds (ps:=["self","name","cost","one","other"]) λ_ _ _ _ _ _=>bd5 λ_ _ _ _ _=>rfl
 have zqg:Mk K zba zoa:=⟨wt,vC,jw,vX⟩;have zPg:=W.mg_of X G Bk;have zKa:fD K zca:=⟨⟨HM,Jj,Jt,Jx⟩,Ia,zo,Ai,Jw⟩;have zmb:=bC (st:=dJ) kY kK Jr;have zNd:=zmb.binds (ps:=["self","name","cost","part","turning"]) λ_ _ _ _ _ _=>bd5 λ_ _ _ _ _=>rfl
 have zBg:Mk K zca zta:=⟨yb,xz,kJ,wC⟩
 let R:RC:=⟨yao,zea,zaa,zba,zca⟩
 have rk:oI K R:=⟨zJa,zIa,zMa,zKa,⟨Ik,JT,HV,HN⟩,⟨Jv,Iu,Il,JL,Jm⟩,⟨Ic,Jl,H_,Jk,Jb⟩,⟨HS,Iv,Jd,JF,JN⟩,HR,IA,J3,II,HB,HE,Hz,Hm⟩;have ybe:=W.mg_of X G wm;have ya6:=W.mg_of X G vN;have ybl:=W.mg_of X G u9;have yah:=W.mg_of X G Gn;have rk4:EF K R:=⟨λi j hi hj=>by rcases kj hi with rfl | rfl | rfl | rfl<;>rcases kj hj with rfl | rfl | rfl | rfl;exact HB;exact JI;exact J2;exact Ji;exact Je;exact HE;exact Ib;exact ID;exact I_;exact Ie;exact Hz;exact Jp;exact IS;exact I9;exact HJ;exact Hm⟩;have zNa:=bC (st:=dh) ua sO GA;have zfb:=zNa.binds (ps:=["self"]) λ_ _ _ _ _ _=>bd1 λ_=>rfl
 have zve:cN K zea "parts" zja:=⟨mY,fW,GA⟩;have zKb:=bC (st:=dL) ou on Hs;have zAf:=zKb.binds (ps:=["self","pictures"]) λ_ _ _ _ _ _=>bd2 λ_ _=>rfl
 have zOe:cN K zea "made" zAa:=⟨oM,oE,Hs⟩;have zgb:=bC (st:=dM) jk jE Hl;have zqd:=zgb.binds (ps:=["self","rows","columns","cost"]) λ_ _ _ _ _ _=>bd4 λ_ _ _ _=>rfl
 have zzc:cN K zea "part_rows" zpa:=⟨jD,j0,Hl⟩;have zOd:cN K zaa "parts" zja:=⟨lV,fW,GA⟩;have ztb:=bC (st:=cV) mn my Hu;have zwe:=ztb.binds (ps:=["self","pictures"]) λ_ _ _ _ _ _=>bd2 λ_ _=>rfl
 have zge:cN K zaa "made" zwa:=⟨mw,mK,Hu⟩;have zRa:=bC (st:=cU) iL iw Hk;have zYb:=zRa.binds (ps:=["self","rows","columns","cost"]) λ_ _ _ _ _ _=>bd4 λ_ _ _ _=>rfl
 have zBb:cN K zaa "part_rows" zka:=⟨iz,iI,Hk⟩;have zhe:cN K zba "parts" zja:=⟨ml,fW,GA⟩;have zzb:=bC (st:=dw) mT nL HG;have zPe:=zzb.binds (ps:=["self","pictures"]) λ_ _ _ _ _ _=>bd2 λ_ _=>rfl
 have zxe:cN K zba "made" zya:=⟨nr,mX,HG⟩;have zWa:=bC (st:=df) je jg HC;have zAc:=zWa.binds (ps:=["self","rows","columns","cost"]) λ_ _ _ _ _ _=>bd4 λ_ _ _ _=>rfl
 have zZb:cN K zba "part_rows" zma:=⟨jh,jd,HC⟩;have zye:cN K zca "parts" zja:=⟨m5,fW,GA⟩;have zLb:=bC (st:=dX) oF oz HA;have zBf:=zLb.binds (ps:=["self","pictures"]) λ_ _ _ _ _ _=>bd2 λ_ _=>rfl
 have zQe:cN K zca "made" zBa:=⟨oH,oJ,HA⟩;have zhb:=bC (st:=dZ) j5 jB Hi;have zrd:=zhb.binds (ps:=["self","rows","columns","cost"]) λ_ _ _ _ _ _=>bd4 λ_ _ _ _=>rfl
 have zBc:cN K zca "part_rows" zqa:=⟨jn,jy,Hi⟩;have zZg:=W.mg_of X G Ca;have zHa:fD K zga:=⟨⟨IX,Ir,Iy,Ig⟩,HK,zo,Ai,JH⟩;have zpb:=bC (st:=dS) lS lQ JU;have zie:=zpb.binds (ps:=["self","signs","start","rules"]) λ_ _ _ _ _ _=>bd4 λ_ _ _ _=>rfl
 have zQg:Mk K zga zva:=⟨Bb,y_,lE,AA⟩;have gk:Hj K zga:=⟨zHa,JD,Iz,IN,HP⟩;have zCc:=bC (st:=dU) pQ qH Ho;have zVf:=zCc.binds (ps:=["self","k"]) λ_ _ _ _ _ _=>bd2 λ_ _=>rfl
 have zCf:cN K zga "rule" zFa:=⟨qb,pf,Ho⟩;have zDc:=bC (st:=dQ) pB pK HF;have zWf:=zDc.binds (ps:=["self"]) λ_ _ _ _ _ _=>bd1 λ_=>rfl
 have zDf:cN K zga "many" zGa:=⟨qx,qI,HF⟩;have zib:=bC (st:=bT) jC jU Hv;have ztd:=zib.binds (ps:=["self","name"]) λ_ _ _ _ _ _=>bd2 λ_ _=>rfl
 have zEc:cN K zga "numbers_of" zra:=⟨jR,jx,Hv⟩;have yc1:=W.mg_of X G A1;have yat:fD K yab:=⟨⟨xB,wY,yd,yc⟩,xZ,zo,Ai,xW⟩;have ybE:=bC (st:=gb) kC kE kF;have yc5:=ybE.binds (ps:=["self","grammar"]) λ_ _ _ _ _ _=>bd2 λ_ _=>rfl
 have ych:Mk K yab yaN:=⟨xu,xP,kR,xo⟩;have nt:aq K yab "grammar"/\aq K yab "steps"/\aq K yab "totals":=⟨lL,nq,mD⟩;have ybc:=bC (st:=b7) lG lx gs;have ybv:=ybc.binds (ps:=["self","row"]) λ_ _ _ _ _ _=>bd2 λ_ _=>rfl
 have ybt:cN K yab "many_in" yaP:=⟨lw,lC,gs⟩;have ybd:=bC (st:=b_) kO kW fL;have ybz:=ybd.binds (ps:=["self","row"]) λ_ _ _ _ _ _=>bd2 λ_ _=>rfl
 have ybO:cN K yab "steps_of" yaK:=⟨kA,kU,fL⟩;have yaY:=bC (st:=b9) kX kD fN;have ybr:=yaY.binds (ps:=["self","row"]) λ_ _ _ _ _ _=>bd2 λ_ _=>rfl
 have ybu:cN K yab "reckoned" yaS:=⟨kG,kP,fN⟩;have ybg:=bC (st:=bj) gR gU dB;have ybq:=ybg.binds (ps:=["self","rows"]) λ_ _ _ _ _ _=>bd2 λ_ _=>rfl
 have ybw:cN K yab "many_together" yaH:=⟨gS,gX,dB⟩;have ybM:=bC (st:=cu) lB lA gn;have ybZ:=ybM.binds (ps:=["self","row","k"]) λ_ _ _ _ _ _=>bd3 λ_ _ _=>rfl
 have ydp:cN K yab "tree_in" yaG:=⟨lO,lT,gn⟩;have ybI:=bC (st:=cA) ku kI fM;have ydl:=ybI.binds (ps:=["self","rows","k"]) λ_ _ _ _ _ _=>bd3 λ_ _ _=>rfl
 have ycR:cN K yab "trees_in" yaR:=⟨kM,kS,fM⟩;have ybA:=bC (st:=bO) jt jJ fC;have ycn:=ybA.binds (ps:=["self","tree"]) λ_ _ _ _ _ _=>bd2 λ_ _=>rfl
 have ydb:cN K yab "number_in" yaO:=⟨jN,jF,fC⟩;have ybm:=W.mg_of X G BV;have xc_TooMany:uv K yag [.type "ValueError",.type "Exception",.type "BaseException",.type "object"] "ValueError.__new__":=⟨rZ⟩;have ybk:XR K yag:=⟨_,_,_,_,_,_,_,_,⟨rZ⟩,PySem.F.excBase_ValueError,rfl,PySem.F.excBase_ValueError⟩;have xt_TooMany:W.XTy K yag:=⟨xq,xK,ya,wI,x6,zo,Ai,_,_,_,zA⟩;have ya0:=W.mg_of X G vG;have yas:=a1.cal (P:=l.prog) (w:=w) (base:=base) X G (λ_ F m k b=>xQ F nb) (λ_ _ _ _ _ _=>bd2 λ_ _=>rfl);have yaB:=a2.cal (P:=l.prog) (w:=w) (base:=base) X G (λ_ F m k b=>wz F nb ya4 ybo yas) (λ_ _ _ _ _ _=>bd1 λ_=>rfl);have zha:A' l.prog w K mg base (bz l.prog w) 3 "Rule" "__init__" ["self","name","cost","part_names"] (dl K zfa):=⟨_,_,_,u3 zJb nb zCa zxa yaB,ycq,ybU,zzf⟩;have zMb:kT l.prog w K mg base (bz l.prog w) 4 "CellRule" zea ["self","name","cost","sign"] (iJ K zfa):=⟨_,_,uY zlb nb yaz zCa zxa yas zha,zub,zzg,zMd⟩;have zqb:kT l.prog w K mg base (bz l.prog w) 4 "BesideRule" zaa ["self","name","cost","one","other"] (dv K zfa):=⟨_,_,qy zVa nb zha,zpg,zZf,zyc⟩;have zwb:kT l.prog w K mg base (bz l.prog w) 4 "AboveRule" zba ["self","name","cost","one","other"] (dv K zfa):=⟨_,_,rh zeb nb zha,zAg,zqg,zpd⟩;have zNb:kT l.prog w K mg base (bz l.prog w) 4 "TurnRule" zca ["self","name","cost","part","turning"] (iB K zfa):=⟨_,_,tq zmb nb zCa zxa zha,zPg,zBg,zNd⟩;have yax:oG l.prog w K mg base bG 1 "parts" (mU K R):=Bw ⟨_,_,_,fm zNa nb,zJa.cl,zve,zfb⟩ ⟨_,_,_,fm zNa nb,zIa.cl,zOd,zfb⟩ ⟨_,_,_,fm zNa nb,zMa.cl,zhe,zfb⟩ ⟨_,_,_,fm zNa nb,zKa.cl,zye,zfb⟩;have yaX:=a3.cal (P:=l.prog) (w:=w) (base:=base) X G (λ_ F m k b=>uB F nb ybe yaz yas) (λ_ _ _ _ _ _=>bd1 λ_=>rfl);have ybj:=a4.cal (P:=l.prog) (w:=w) (base:=base) X G (λ_ F m k b=>nK F nb rk rk4 ya6 zub zua zna yaX yaB) (λ_ _ _ _ _ _=>bd3 λ_ _ _=>rfl);have ya8:=a5.cal (P:=l.prog) (w:=w) (base:=base) X G (λ_ F m k b=>lF F nb rk yax) (λ_ _ _ _ _ _=>bd2 λ_ _=>rfl);have zFc:kT l.prog w K mg base (bz l.prog w) 4 "Grammar" zga ["self","signs","start","rules"] (i5 K R zda):=⟨_,_,tX zpb nb ybl zua zna ybj ya8,zZg,zQg,zie⟩;have yad:bX l.prog w K mg base bG 1 zga "rule" ["self","k"] (b6 R zga):=⟨_,_,tS zCc nb zHa.cl gk.na,zHa.cl,zCf,zVf⟩;have yaV:bX l.prog w K mg base bG 1 zga "many" ["self"] (iX R zga):=⟨_,_,tN zDc nb zHa.cl gk.na,zHa.cl,zDf,zWf⟩;have yan:bX l.prog w K mg base (bz l.prog w) 1 zga "numbers_of" ["self","name"] (cq R zga yaa):=⟨_,_,lH zib nb zHa.cl gk.na ybp ybi,zHa.cl,zEc,ztd⟩;have yba:=a6.cal (P:=l.prog) (w:=w) (base:=base) X G (λ_ F m k b=>zM F nb yah zvb znb) (λ_ _ _ _ _ _=>bd2 λ_ _=>rfl);have yaZ:=a7.cal (P:=l.prog) (w:=w) (base:=base) X G (λ_ F m k b=>C9 F nb yah zvb znb) (λ_ _ _ _ _ _=>bd2 λ_ _=>rfl);have ya3:=a8.cal (P:=l.prog) (w:=w) (base:=base) X G (λ_ F m k b=>Bd F nb) (λ_ _ _ _ _ _=>bd1 λ_=>rfl);have ya2:=a9.cal (P:=l.prog) (w:=w) (base:=base) X G (λ_ F m k b=>zf F nb) (λ_ _ _ _ _ _=>bd2 λ_ _=>rfl);have ya1:=IV.cal (P:=l.prog) (w:=w) (base:=base) X G (λ_ F m k b=>w6 F nb ya2) (λ_ _ _ _ _ _=>bd1 λ_=>rfl);have zAe:=J0.cal (P:=l.prog) (w:=w) (base:=base) X G (λ_ F m k b=>Au F nb ya3 ya1) (λ_ _ _ _ _ _=>bd2 λ_ _=>rfl);have yaU:oG l.prog w K mg base (bz l.prog w) 4 "made" (pA K R zia):=Bw ⟨_,_,_,(ug zKb zJa.cl rk.a0.2.2.2).lift.mono nofun,zJa.cl,zOe,zAf⟩ ⟨_,_,_,(qa ztb yba).mono nofun,zIa.cl,zge,zwe⟩ ⟨_,_,_,(qU zzb yaZ).mono nofun,zMa.cl,zxe,zPe⟩ ⟨_,_,_,(ul zLb zKa.cl rk.a3.2.2.2.2 zAe).lift,zKa.cl,zQe,zBf⟩;have yaI:=Jo.cal (P:=l.prog) (w:=w) (base:=base) X G (λ_ F m k b=>ll F nb rk yaA yaF yax yad yaV m k b 18 nofun) (λ_ _ _ _ _ _=>bd4 λ_ _ _ _=>rfl);have yaJ:=Ja.cal (P:=l.prog) (w:=w) (base:=base) X G (λ_ F m k b=>Cc F nb yaU yad m k b 18 nofun) (λ_ _ _ _ _ _=>bd3 λ_ _ _=>rfl);have yaq:=IU.cal (P:=l.prog) (w:=w) (base:=base) X G (λ_ F m k b=>Et F nb yaI yaJ) (λ_ _ _ _ _ _=>bd2 λ_ _=>rfl);have yaQ:=Ih.cal (P:=l.prog) (w:=w) (base:=base) X G (λ_ F m k b=>lg F nb m k b 18 nofun) (λ_ _ _ _ _ _=>bd1 λ_=>rfl);have ya9:=IL.cal (P:=l.prog) (w:=w) (base:=base) X G (λ_ F m k b=>wN F nb nb.sum rk yad yaq yaQ) (λ_ _ _ _ _ _=>bd2 λ_ _=>rfl);have ya7:=HY.cal (P:=l.prog) (w:=w) (base:=base) X G (λ_ F m k b=>xL F nb) (λ_ _ _ _ _ _=>bd1 λ_=>rfl);have yai:=HL.cal (P:=l.prog) (w:=w) (base:=base) X G (λ_ F m k b=>AR F) (λ_ _ _ _ _ _=>bd1 λ_=>rfl);have yaD:=JO.cal (P:=l.prog) (w:=w) (base:=base) X G (λ_ F m k b=>ph F nb yai) (λ_ _ _ _ _ _=>bd3 λ_ _ _=>rfl);have yap:oG l.prog w K mg base bG 3 "part_rows" (k6 R):=Bw ⟨_,_,_,(tj zgb nb zJa.cl rk.a0.2.1).mono nofun,zJa.cl,zzc,zqd⟩ ⟨_,_,_,qk zRa nb zIa.cl ⟨rk.a1.2.1,rk.a1.2.2.2.1,rk.a1.2.2.2.2⟩ yaD,zIa.cl,zBb,zYb⟩ ⟨_,_,_,rq zWa nb zMa.cl ⟨rk.a2.2.1,rk.a2.2.2.2.1,rk.a2.2.2.2.2⟩ yaD,zMa.cl,zZb,zAc⟩ ⟨_,_,_,(sY zhb nb zKa.cl ⟨rk.a3.2.1,rk.a3.2.2.2.1,rk.a3.2.2.2.2⟩).mono nofun,zKa.cl,zBc,zrd⟩;have yak:kT l.prog w K mg base bG 1 "TreeRows" yab ["self","grammar"] (eS K):=⟨_,_,xY ybE nb,yc1,ych,yc5⟩;have yaf:=jM (P:=l.prog) (w:=w) (base:=base) (R:=R) ybc ybd yaY ybg nb nb.sum yah yat nt ybt ybO ybu ybw ybv ybz ybr ybq yai yan yad yap 17;have yaj:=zw (P:=l.prog) (w:=w) (base:=base) (R:=R) ybc ybd yaY ybg nb nb.sum yah yat nt ybt ybO ybu ybw ybv ybz ybr ybq yai yan yad yap
 have yau:=nX (P:=l.prog) (w:=w) (base:=base) (R:=R) ybM ybI nb yat yaC yaE ydp ycR ybZ ydl yaf yaj 17;have yaw:=JC.cal (P:=l.prog) (w:=w) (base:=base) X G (λ_ F m k b=>AD F nb rk yad yaq ya7 ya9) (λ_ _ _ _ _ _=>bd2 λ_ _=>rfl);have yaM:=k7 (P:=l.prog) (w:=w) (base:=base) (R:=R) ybA nb yat nt ydb ycn yaw yaj yaf 16 nofun;have ybb:=JE.cal (P:=l.prog) (w:=w) (base:=base) X G (λ_ F m k b=>pE F nb yat nt yak yaf) (λ_ _ _ _ _ _=>bd5 λ_ _ _ _ _=>rfl);have ybh:=HH.cal (P:=l.prog) (w:=w) (base:=base) X G (λ_ F m k b=>xM F nb yat nt yak yau) (λ_ _ _ _ _ _=>bd6 λ_ _ _ _ _ _=>rfl);have ybn:=HQ.cal (P:=l.prog) (w:=w) (base:=base) X G (λ_ F m k b=>tW F nb yat nt yaq yak yaM) (λ_ _ _ _ _ _=>bd2 λ_ _=>rfl);have ybf:=JQ.cal (P:=l.prog) (w:=w) (base:=base) X G (λ_ F m k b=>vY F nb yat nt ya0 ybm ybk yak yaf yau) (λ_ _ _ _ _ _=>bd5 λ_ _ _ _ _=>rfl);have zDa:=HX.cal (P:=l.prog) (w:=w) (base:=base) X G (λ_ F m k b=>zB F nb) (λ_ _ _ _ _ _=>bd2 λ_ _=>rfl);have zQd:=Ix.cal (P:=l.prog) (w:=w) (base:=base) X G (λ_ F m k b=>xX F nb zDa) (λ_ _ _ _ _ _=>bd3 λ_ _ _=>rfl);have zCb:=JP.cal (P:=l.prog) (w:=w) (base:=base) X G (λ_ F m k b=>xi F nb) (λ_ _ _ _ _ _=>bd1 λ_=>rfl);have zRd:=Iw.cal (P:=l.prog) (w:=w) (base:=base) X G (λ_ F m k b=>xS F nb) (λ_ _ _ _ _ _=>bd2 λ_ _=>rfl);have zSd:=IB.cal (P:=l.prog) (w:=w) (base:=base) X G (λ_ F m k b=>x9 F nb) (λ_ _ _ _ _ _=>bd1 λ_=>rfl);have zBe:=IZ.cal (P:=l.prog) (w:=w) (base:=base) X G (λ_ F m k b=>AC F nb rk zMb zqb zwb zNb) (λ_ _ _ _ _ _=>bd1 λ_=>rfl);have zOb:=I8.cal (P:=l.prog) (w:=w) (base:=base) X G (λ_ F m k b=>tF F nb gk zBe zFc) (λ_ _ _ _ _ _=>bd3 λ_ _ _=>rfl);have zGc:=JX.cal (P:=l.prog) (w:=w) (base:=base) X G (λ_ F m k b=>vg F nb) (λ_ _ _ _ _ _=>bd2 λ_ _=>rfl);have zHc:=JW.cal (P:=l.prog) (w:=w) (base:=base) X G (λ_ F m k b=>u_ F nb) (λ_ _ _ _ _ _=>bd4 λ_ _ _ _=>rfl);have zPd:=IE.cal (P:=l.prog) (w:=w) (base:=base) X G (λ_ F m k b=>wR F nb) (λ_ _ _ _ _ _=>bd3 λ_ _ _=>rfl);have zac:=IT.cal (P:=l.prog) (w:=w) (base:=base) X G (λ_ F m k b=>CI F nb nb.sum zPd) (λ_ _ _ _ _ _=>bd6 λ_ _ _ _ _ _=>rfl);have zCe:=Ij.cal (P:=l.prog) (w:=w) (base:=base) X G (λ_ F m k b=>zu F nb zac zGc zHc) (λ_ _ _ _ _ _=>bd4 λ_ _ _ _=>rfl);have zTd:=IC.cal (P:=l.prog) (w:=w) (base:=base) X G (λ_ F m k b=>yj F nb zCe) (λ_ _ _ _ _ _=>bd2 λ_ _=>rfl);exact Fp FL nb zDa zQd zCb zRd zSd zTd zOb ybb ybh ybn ybf
theorem walk{l:W.OpenLaw}{q:Ld}{loose:Le}{XP:(Str->Option Value)->Heap->Prop}{YP:World->Heap->Prop}{d:DefRec}{K:Params->W.Frag}(hn:l.most=some 63)(hdf:d.params.defaults=[])
  (hY:∀(w:Lg) (h:Heap),YP w h->(K w.params).In h)
  (F:∀(w:Lg) (mg:Lb) (fa:Addr) (h:Heap),(K w.params).In h->h.Ns mainGlobals mg->mg d.name=some (.ref fa) ->
   ∃fd:FuncData,(∀(s:K8) (u:Value),BindsTo s fd ⟨[u],[]⟩ [("_law_script",u)])/\∀base:Heap,(K w.params).In base->base.Ns mainGlobals mg->aQ l.prog w (K w.params) mg base bG 109 fa fd ["_law_script"] (tO (K w.params))) :
  W.WalkO q loose XP YP l.row.toRowW d [] (λf vs=>PySem.call f vs):=
 L2.walk_of (n:=63) (k:=109) (x:="_law_script") (CX:=λ_=>bG) (sp:=λw=>tO (K w.params)) hn nofun hdf ⟨rfl,nofun,nofun⟩ hY F (λ_ _ a ns hl _ hS=>⟨a,ns,rfl,hS,λ_=>rfl⟩) λ_ _ _ _ _ z=>z
end Q36
open PySem PySem.W PyProof.Rows
local macro_rules | `(tactic| walk_at "kk")=>`(tactic| first | (refine' Q36.fk_mk ?p ?q ?r ?s;(case p=>k_is);(case q=>k_is);(case r=>k_is);(case s=>k_is)) | (refine' Q36.mk_mk ?p ?q ?r ?s;(case p=>k_is);(case q=>k_is);(case r=>k_is);(case s=>k_is)) | k_is | kernel_rfl | rfl | decide +kernel)
set_option maxRecDepth 100000 in
set_option maxHeartbeats 0 in
theorem PySem.Challenge.cw_quiltlaw_k36_rows_one_by_one_holds : PySem.Challenge.rw_quiltlaw_k36_rows_one_by_one.Holds := by
 w_on;o_law;k_head;(case hw=>w_witness2)
 k_fill
 refine Q36.walk (l:=PySem.Challenge.rw_quiltlaw_k36_rows_one_by_one) rfl rfl (λw h Y=>PySem.W.kIn_of Y) ?F
 case F=>
  intro w mg fa h KX G hmg
  refine' Q36.all_mk KX G hmg ?_ ?_ ?_ ?_ ?_ ?_ ?_ ?_ ?_ ?_ ?_ ?_ ?_ ?_ ?_ ?_ ?_ ?_ ?_ ?_ ?_ ?_ ?_ ?_ ?_ ?_ ?_ ?_ ?_ ?_ ?_ ?_ ?_ ?_ ?_ ?_ ?_ ?_ ?_ ?_ ?_ ?_ ?_ ?_ ?_ ?_ ?_ ?_ ?_ ?_ ?_ ?_ ?_ ?_ ?_ ?_ ?_ ?_ ?_ ?_ ?_ ?_ ?_ ?_ ?_ ?_ ?_ ?_ ?_ ?_ ?_ ?_ ?_ ?_ ?_ ?_ ?_ ?_ ?_ ?_ ?_ ?_ ?_ ?_ ?_ ?_ ?_ ?_ ?_ ?_ ?_ ?_ ?_ ?_ ?_ ?_ ?_ ?_ ?_ ?_ ?_ ?_ ?_ ?_ ?_ ?_ ?_ ?_ ?_ ?_ ?_ ?_ ?_ ?_ ?_ ?_ ?_ ?_ ?_ ?_ ?_ ?_ ?_ ?_ ?_ ?_ ?_ ?_ ?_ ?_ ?_ ?_ ?_ ?_ ?_ ?_ ?_ ?_ ?_ ?_ ?_ ?_ ?_ ?_ ?_ ?_ ?_ ?_ ?_ ?_ ?_ ?_ ?_ ?_ ?_ ?_ ?_ ?_ ?_ ?_ ?_ ?_ ?_ ?_ ?_ ?_ ?_ ?_ ?_ ?_ ?_ ?_ ?_ ?_ ?_ ?_ ?_ ?_ ?_ ?_ ?_ ?_ ?_ ?_ ?_ ?_ ?_ ?_ ?_ ?_ ?_ ?_ ?_ ?_ ?_ ?_ ?_ ?_ ?_ ?_ ?_ ?_ ?_ ?_ ?_ ?_ ?_ ?_ ?_ ?_ ?_ ?_ ?_ ?_ ?_ ?_ ?_ ?_ ?_ ?_ ?_ ?_ ?_ ?_ ?_ ?_ ?_ ?_ ?_ ?_ ?_ ?_ ?_ ?_ ?_ ?_ ?_ ?_ ?_ ?_ ?_ ?_ ?_ ?_ ?_ ?_ ?_ ?_ ?_ ?_ ?_ ?_ ?_ ?_ ?_ ?_ ?_ ?_ ?_ ?_ ?_ ?_ ?_ ?_ ?_ ?_ ?_ ?_ ?_ ?_ ?_ ?_ ?_ ?_ ?_ ?_ ?_ ?_ ?_ ?_ ?_ ?_ ?_ ?_ ?_ ?_ ?_ ?_ ?_ ?_ ?_ ?_ ?_ ?_ ?_ ?_ ?_ ?_ ?_ ?_ ?_ ?_ ?_ ?_ ?_ ?_ ?_ ?_ ?_ ?_ ?_ ?_ ?_ ?_ ?_ ?_ ?_ ?_ ?_ ?_ ?_ ?_ ?_ ?_ ?_ ?_ ?_ ?_ ?_ ?_ ?_ ?_ ?_ ?_ ?_ ?_ ?_ ?_ ?_ ?_ ?_ ?_ ?_ ?_ ?_ ?_ ?_ ?_ ?_ ?_ ?_ ?_ ?_ ?_ ?_ ?_ ?_ ?_ ?_ ?_ ?_ ?_ ?_ ?_ ?_ ?_ ?_ ?_ ?_ ?_ ?_ ?_ ?_ ?_ ?_ ?_ ?_ ?_ ?_ ?_ ?_
  all_goals (try walk_at "kk")
